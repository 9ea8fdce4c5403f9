package dom

import (
	"slices"

	"woodcut/api"
)

// Put lets a node stand beneath another one, ahead of one of its kids, or, with None, behind all.
func (d *Doc) Put(up, n, before int) api.Errno {
	if !d.holds(up) || !d.has(n) || d.Nodes[n].Kind == Page || before == n || d.within(up, n) {
		return api.ErrArg
	}
	if _, found := d.place(up, before); !found {
		return api.ErrNone
	}
	d.Out(n)
	// The place is only now that which holds: the node may have stood ahead of it.
	at, _ := d.place(up, before)
	d.Nodes[up].Kids = slices.Insert(d.Nodes[up].Kids, at, n)
	d.Nodes[n].Up = up
	return api.OK
}

// holds tells whether a node is of a kind that has kids.
func (d *Doc) holds(n int) bool {
	kind := d.Kind(n)
	return kind == Page || kind == Element
}

// within tells whether a node is another one, or stands somewhere beneath it; templates' contents stand beneath these.
func (d *Doc) within(n, top int) bool {
	if n == top {
		return true
	}
	if len(d.kids(top)) == 0 && d.inner(top) == None {
		// Climbing from each new node would make deep trees slow to build.
		return false
	}
	for range d.Nodes {
		n = d.above(n)
		if n == top || n == None {
			break
		}
	}
	return n == top
}

// above is the node above one, or the template whose contents stand beneath it.
func (d *Doc) above(n int) int {
	if up := d.Up(n); up != None {
		return up
	}
	if d.inner(n-1) == n {
		return n - 1
	}
	return None
}

// place is where among a node's kids one stands, or, with None, where they end.
func (d *Doc) place(up, before int) (int, bool) {
	kids := d.kids(up)
	if before == None {
		return len(kids), true
	}
	at := slices.Index(kids, before)
	return at, at >= 0
}

// Out takes a node out of its place.
func (d *Doc) Out(n int) {
	if !d.has(n) {
		return
	}
	up := d.Nodes[n].Up
	if at := slices.Index(d.kids(up), n); at >= 0 {
		d.Nodes[up].Kids = slices.Delete(d.Nodes[up].Kids, at, at+1)
	}
	d.Nodes[n].Up = None
}

// Say lays a text beneath a node, ahead of one of its kids, or behind all; where a text stands ahead it grows.
func (d *Doc) Say(up int, s string, before int) api.Errno {
	if !d.has(up) || s == "" {
		return api.ErrArg
	}
	at, found := d.place(up, before)
	if !found {
		return api.ErrNone
	}
	if at > 0 {
		if last := d.Nodes[up].Kids[at-1]; d.Kind(last) == Text {
			d.Nodes[last].Data += s
			return api.OK
		}
	}
	n := d.Add(Node{Kind: Text, Data: s})
	if n == None {
		return api.ErrNodes
	}
	return d.Put(up, n, before)
}

// Move lets all that stands beneath a node stand beneath another one, behind what is there.
func (d *Doc) Move(from, to int) api.Errno {
	if !d.has(from) || !d.has(to) || from == to {
		return api.ErrArg
	}
	for _, n := range d.Kids(from) {
		if err := d.Put(to, n, None); err != api.OK {
			return err
		}
	}
	return api.OK
}
