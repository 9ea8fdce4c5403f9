package tree

import (
	"slices"

	"woodcut/api"
	"woodcut/dom"
	"woodcut/open"
)

const (
	mostRounds = 8 // of the adoption agency algorithm
	mostKept   = 3 // formatting elements within one that ends, which go on being such
)

// reconstruct opens again the formatting elements that were closed by the end of what they stood in.
func (b *Builder) reconstruct() {
	at := len(b.forms)
	for at > 0 && !b.goesOn(b.forms[at-1]) {
		at--
	}
	for ; at < len(b.forms) && b.err == api.OK; at++ {
		b.forms[at].Node = b.insert(b.forms[at].Tag)
	}
}

// goesOn tells whether what stands ahead of an entry needs no look: it is a marker, or open.
func (b *Builder) goesOn(x open.Form) bool {
	return x.Node == dom.None || b.stack.At(x.Node) >= 0
}

// adopt is the adoption agency algorithm: it ends a formatting element, even if what began within it goes on.
func (b *Builder) adopt(name string) {
	if top := b.stack.Top(); b.d.Is(top, name) && b.forms.At(top) < 0 {
		b.stack.Pop()
		return
	}
	for range mostRounds {
		if b.err != api.OK || !b.adoptOnce(name) {
			return
		}
	}
}

// adoptOnce is one round, and tells whether there may be another one.
func (b *Builder) adoptOnce(name string) bool {
	f := b.forms.Last(name)
	switch {
	case f == dom.None:
		b.endOther(name)
		return false
	case b.stack.At(f) < 0:
		b.forms.Remove(f)
		return false
	case !b.stack.Seen(open.Usual, f):
		return false
	}
	block := b.furthestBlock(f)
	if block == dom.None {
		b.closeTo(f)
		b.forms.Remove(f)
		return false
	}
	last, behind := b.takeOut(f, block)
	b.lay(last, b.placeWithin(b.around(f)))
	b.layWithin(f, block, behind)
	return true
}

// furthestBlock is the outermost special element that is open within another one.
func (b *Builder) furthestBlock(f int) int {
	for _, n := range b.stack.All[b.stack.At(f)+1:] {
		if b.isSpecial(n) {
			return n
		}
	}
	return dom.None
}

// takeOut hangs the block beneath new elements of what is open between it and f. It tells the outermost of them, or the block, and the node whose place in the list is right ahead of the bookmark, or f.
func (b *Builder) takeOut(f, block int) (last, behind int) {
	last, behind = block, f
	nth := 0
	for at := b.stack.At(block) - 1; at > b.stack.At(f); at-- {
		x := b.stack.All[at]
		nth++
		if nth > mostKept {
			b.forms.Remove(x)
		}
		entry := b.forms.At(x)
		if entry < 0 {
			b.stack.Remove(x)
			continue
		}
		made := b.element(dom.HTML, b.forms[entry].Tag)
		if made == dom.None {
			break
		}
		b.stack.All[at] = made
		b.forms[entry].Node = made
		if last == block {
			behind = made
		}
		b.lay(last, b.endOf(made))
		last = made
	}
	return last, behind
}

// layWithin puts a new element in f's place: beneath the block, around all that stood there.
func (b *Builder) layWithin(f, block, behind int) {
	entry := b.forms[b.forms.At(f)]
	entry.Node = b.element(dom.HTML, entry.Tag)
	if entry.Node == dom.None {
		return
	}
	b.d.Move(b.endOf(block).up, entry.Node)
	b.lay(entry.Node, b.endOf(block))
	// A bookmark that is right behind a node stays there when f, ahead of it, goes.
	b.forms = slices.Insert(b.forms, b.forms.At(behind)+1, entry)
	b.forms.Remove(f)
	b.stack.Remove(f)
	b.stack.Insert(b.stack.At(block)+1, entry.Node)
}
