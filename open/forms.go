package open

import (
	"slices"

	"woodcut/dom"
	"woodcut/token"
)

// mostAlike is how many elements that are alike may stand behind the last mark.
const mostAlike = 3

// Form is an element whose look goes on in what follows; a mark stands for none.
type Form struct {
	Node int
	Tag  token.Token
}

// Forms is such elements, the eldest first. No call writes over a list that was one before it: the list may be someone else's, too.
type Forms []Form

// Mark lays a mark.
func (f *Forms) Mark() { f.lay(Form{Node: dom.None}) }

// lay lays an entry behind all; there may be no Forms.
func (f *Forms) lay(x Form) {
	if f != nil {
		*f = append(*f, x)
	}
}

// Add lays an element; of three that are alike behind the last mark the eldest goes.
func (f *Forms) Add(n int, t token.Token) {
	if f == nil {
		return
	}
	if alike := f.alike(t); len(alike) >= mostAlike {
		f.cut(alike[0])
	}
	t.Attrs = slices.Clone(t.Attrs)
	f.lay(Form{Node: n, Tag: t})
}

// alike is where elements of a like tag stand behind the last mark.
func (f Forms) alike(t token.Token) []int {
	var at []int
	for i := f.behindMark(); i < len(f); i++ {
		if f[i].Tag.Name == t.Name && token.Alike(f[i].Tag.Attrs, t.Attrs) {
			at = append(at, i)
		}
	}
	return at
}

// behindMark is where that begins what stands behind the last mark, or all, if there is no mark.
func (f Forms) behindMark() int {
	at := len(f)
	for at > 0 && f[at-1].Node != dom.None {
		at--
	}
	return at
}

// cut takes out what stands in a place.
func (f *Forms) cut(at int) { *f = slices.Concat((*f)[:at], (*f)[at+1:]) }

// At is where a node stands; -1: nowhere.
func (f Forms) At(n int) int {
	if n == dom.None {
		// A mark has that number, but it is no node.
		return -1
	}
	return slices.IndexFunc(f, func(x Form) bool { return x.Node == n })
}

// Last is the last one of a name behind the last mark; None: there is none.
func (f Forms) Last(name string) int {
	for _, x := range slices.Backward(f[f.behindMark():]) {
		if x.Tag.Name == name {
			return x.Node
		}
	}
	return dom.None
}

// Remove takes a node out.
func (f *Forms) Remove(n int) {
	if f == nil {
		return
	}
	if at := f.At(n); at >= 0 {
		f.cut(at)
	}
}

// Clear takes all out up to the last mark, this too.
func (f *Forms) Clear() {
	if f == nil {
		return
	}
	keep := max(f.behindMark()-1, 0)
	// Without room behind it, so that an Add takes a new list.
	*f = (*f)[:keep:keep]
}
