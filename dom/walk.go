package dom

import (
	"iter"
	"strings"
)

// Walk goes through all beneath a node, in the order of the text, and how deep each is; templates' contents, too.
func (d *Doc) Walk(n int) iter.Seq2[int, int] {
	return func(yield func(int, int) bool) {
		// No tree shows a node twice, but a ring would, for ever.
		left := d.size()
		var visit func(n, depth int) bool
		visit = func(n, depth int) bool {
			for _, kid := range d.shown(n) {
				if !d.has(kid) {
					continue
				}
				left--
				if left < 0 || !yield(kid, depth) || !visit(kid, depth+1) {
					return false
				}
			}
			return true
		}
		visit(n, 1)
	}
}

// shown is the nodes that Walk shows right beneath one: a template's contents stand for its kids.
func (d *Doc) shown(n int) []int {
	if inner := d.inner(n); inner != None {
		return d.kids(inner)
	}
	return d.kids(n)
}

// Find goes through the elements of HTML of a name beneath a node.
func (d *Doc) Find(n int, name string) iter.Seq[int] {
	return func(yield func(int) bool) {
		for kid := range d.Walk(n) {
			if d.Is(kid, name) && !yield(kid) {
				return
			}
		}
	}
}

// Words is all texts beneath a node, one behind the other.
func (d *Doc) Words(n int) string {
	var words strings.Builder
	for kid := range d.Walk(n) {
		if d.Kind(kid) == Text {
			words.WriteString(d.Nodes[kid].Data)
		}
	}
	return words.String()
}

// Deep is how deep all beneath a node goes: 0, if there is nothing.
func (d *Doc) Deep(n int) int {
	most := 0
	for _, depth := range d.Walk(n) {
		most = max(most, depth)
	}
	return most
}
