package dom

import "slices"

// standing is a node, and the one beneath which its copy belongs.
type standing struct{ n, up int }

// Take is a copy of a node of another tree, and of all beneath it, that stands nowhere.
func (d *Doc) Take(from *Doc, n int) int {
	if !from.has(n) || from.Nodes[n].Kind == Page {
		return None
	}
	var made []standing
	todo := []standing{{n: n, up: None}}
	for len(todo) > 0 {
		last := len(todo) - 1
		next := todo[last]
		todo = todo[:last]
		c := d.Add(from.Nodes[next.n])
		if c == None {
			return None
		}
		made = append(made, standing{n: c, up: next.up})
		todo = from.stack(todo, from.inner(next.n), d.inner(c))
		todo = from.stack(todo, next.n, c)
	}
	// Only now: what a copy that fails leaves behind stands nowhere, each node of it.
	for _, s := range made[1:] {
		d.Put(s.up, s.n, None)
	}
	return made[0].n
}

// stack lays a node's kids behind what is to do, the first one last, for the last one is done first.
func (d *Doc) stack(todo []standing, n, up int) []standing {
	for _, kid := range slices.Backward(d.kids(n)) {
		if d.has(kid) {
			todo = append(todo, standing{n: kid, up: up})
		}
	}
	return todo
}

// Same tells whether what stands beneath two nodes, and these, is the same.
func Same(a *Doc, m int, b *Doc, n int) bool {
	// No tree has a node at two places, but a ring would be gone through for ever.
	left := a.size()
	var same func(m, n int) bool
	same = func(m, n int) bool {
		if !a.has(m) || !b.has(n) {
			return a.has(m) == b.has(n)
		}
		left--
		x, y := a.Nodes[m], b.Nodes[n]
		return left >= 0 && alike(x, y) && slices.EqualFunc(x.Kids, y.Kids, same) && same(a.inner(m), b.inner(n))
	}
	return same(m, n)
}

// alike tells whether two nodes are the same but for what stands beneath them.
func alike(x, y Node) bool {
	return x.Kind == y.Kind && x.Space == y.Space && x.Name == y.Name && x.Data == y.Data &&
		x.Public == y.Public && x.System == y.System && slices.Equal(x.Attrs, y.Attrs)
}
