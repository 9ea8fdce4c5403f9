package meta

import (
	"woodcut/dom"
	"woodcut/path"
	"woodcut/token"
)

const (
	fill = "fill"
	slot = "slot"
)

// Fills is the elements that fill slots, by the slots' names: the first one of each that isn't within another one.
func Fills(d *dom.Doc, root int) *path.Table[string, int] {
	fills := &path.Table[string, int]{}
	for _, n := range outermost(d, root, fill) {
		name, _ := token.Get(d.Nodes[n].Attrs, slot)
		if _, before := fills.Get(name); !before {
			fills.Put(name, n)
		}
	}
	return fills
}

// Slots is the elements that are slots beneath a node, in order; none within another one.
func Slots(d *dom.Doc, root int) []int {
	return outermost(d, root, slot)
}

// outermost is the elements of HTML of a name beneath a node, in order, but for those within another one beneath it.
func outermost(d *dom.Doc, root int, name string) []int {
	var found []int
	last := 0 // how deep the last one is while the walk is within it, and otherwise 0
	for n, depth := range d.Walk(root) {
		if last != 0 && depth > last {
			continue
		}
		last = 0
		if d.Is(n, name) {
			found = append(found, n)
			last = depth
		}
	}
	return found
}

// Slot is a slot's name, and whether it must be filled.
func Slot(d *dom.Doc, n int) (string, bool) {
	if !d.Is(n, slot) {
		return "", false
	}
	name, _ := token.Get(d.Nodes[n].Attrs, "name")
	_, must := token.Get(d.Nodes[n].Attrs, "required")
	return name, must
}
