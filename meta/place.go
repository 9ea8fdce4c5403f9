package meta

import (
	"strings"

	"woodcut/api"
	"woodcut/dom"
)

// Kids lets what stands beneath a node stand in its place instead, of a template its contents.
func Kids(d *dom.Doc, n int) api.Errno {
	up := d.Up(n)
	if up == dom.None {
		return api.ErrArg
	}
	for _, kid := range d.Kids(holder(d, n)) {
		if err := d.Put(up, kid, n); err != api.OK {
			return err
		}
	}
	d.Out(n)
	return Join(d, up)
}

// holder is the node beneath which that stands which another one shows: of a template that of its contents.
func holder(d *dom.Doc, n int) int {
	// The page itself is nobody's contents: a node that was made by hand may hold its number by default.
	if d.Nodes[n].Inner > dom.Root {
		return d.Nodes[n].Inner
	}
	return n
}

// has tells whether a tree has a node of a number.
func has(d *dom.Doc, n int) bool {
	return d != nil && n >= 0 && n < len(d.Nodes)
}

// Join lets texts that stand side by side beneath a node be one.
func Join(d *dom.Doc, n int) api.Errno {
	if !has(d, n) {
		return api.ErrArg
	}
	kids := d.Kids(n)
	for len(kids) > 0 {
		size := texts(d, kids)
		if size > 1 {
			merge(d, kids[:size])
		}
		kids = kids[max(size, 1):]
	}
	return api.OK
}

// texts is with how many texts a list of nodes begins.
func texts(d *dom.Doc, list []int) int {
	for size, n := range list {
		if d.Kind(n) != dom.Text {
			return size
		}
	}
	return len(list)
}

// merge lets the first one of some texts say what all of them do, and takes out the others.
func merge(d *dom.Doc, list []int) {
	// Adding text to text would copy what is there each time.
	var words strings.Builder
	for _, n := range list {
		words.WriteString(d.Nodes[n].Data)
	}
	d.Nodes[list[0]].Data = words.String()
	for _, n := range list[1:] {
		d.Out(n)
	}
}
