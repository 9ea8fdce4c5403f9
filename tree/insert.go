package tree

import (
	"slices"

	"woodcut/api"
	"woodcut/dom"
	"woodcut/lex"
	"woodcut/token"
)

// place is where a node goes: beneath one, ahead of one of its kids, or, with None, behind all of them.
type place struct{ up, before int }

// placeWithin is where a node goes if that one were the innermost open element.
func (b *Builder) placeWithin(n int) place {
	if b.foster && b.d.Is(n, "table", "tbody", "tfoot", "thead", "tr") {
		return b.fosterPlace()
	}
	return b.endOf(n)
}

// fosterPlace is where that goes which may not stand right within a table.
func (b *Builder) fosterPlace() place {
	table, template := b.lastOpen("table"), b.lastOpen("template")
	switch {
	case template > table:
		return b.endOf(b.stack.All[template])
	case table < 0:
		return b.endOf(b.stack.All[0])
	}
	n := b.stack.All[table]
	if up := b.d.Up(n); up != dom.None {
		return place{up, n}
	}
	return b.endOf(b.around(n))
}

// endOf is behind all that stands beneath a node: of a template, beneath its contents' node; of none, beneath the page.
func (b *Builder) endOf(n int) place {
	if n == dom.None {
		return place{dom.Root, dom.None}
	}
	if b.d.Is(n, "template") {
		return place{b.d.Nodes[n].Inner, dom.None}
	}
	return place{n, dom.None}
}

// lastOpen is where the innermost open element of a name stands; -1: there is none.
func (b *Builder) lastOpen(name string) int {
	for at, n := range slices.Backward(b.stack.All) {
		if b.d.Is(n, name) {
			return at
		}
	}
	return -1
}

// around is the element that is open around another one.
func (b *Builder) around(n int) int {
	at := b.stack.At(n)
	if at < 1 {
		return dom.None
	}
	return b.stack.All[at-1]
}

// add makes a node that stands nowhere yet.
func (b *Builder) add(n dom.Node) int {
	made := b.d.Add(n)
	if made == dom.None {
		b.fail(api.ErrNodes)
	}
	return made
}

// element makes an element of a tag that stands nowhere yet.
func (b *Builder) element(space int, t token.Token) int {
	return b.add(dom.Node{Kind: dom.Element, Space: space, Name: t.Name, Attrs: t.Attrs})
}

// lay puts a node in a place.
func (b *Builder) lay(n int, at place) {
	b.d.Put(at.up, n, at.before)
}

// push opens an element.
func (b *Builder) push(n int) {
	b.stack.Push(n)
	if len(b.stack.All) > api.MaxDepth {
		b.fail(api.ErrDeep)
	}
}

// insert lays an element of a tag, and opens it.
func (b *Builder) insert(t token.Token) int { return b.insertOf(dom.HTML, t) }

func (b *Builder) insertNamed(name string) int {
	return b.insert(token.Token{Kind: token.Start, Name: name})
}

func (b *Builder) insertOf(space int, t token.Token) int {
	n := b.element(space, t)
	if n == dom.None {
		return n
	}
	b.lay(n, b.placeWithin(b.stack.Top()))
	b.push(n)
	return n
}

// alone lays an element that has nothing within.
func (b *Builder) alone(t token.Token) int {
	n := b.insert(t)
	b.stack.Pop()
	return n
}

// raw lays an element that has nothing but a text within.
func (b *Builder) raw(t token.Token, way int) {
	b.insert(t)
	b.lexer.Way(way, t.Name)
	b.back, b.mode = b.mode, inText
}

// rawPastNewline is raw for an element whose text may begin with a newline that isn't meant.
func (b *Builder) rawPastNewline(t token.Token) {
	b.raw(t, lex.RCData)
	b.skip = true
}

// inText is the mode of what stands within such an element.
func (b *Builder) inText(t token.Token) {
	if t.Kind == token.Text {
		b.say(t.Data)
		return
	}
	b.stack.Pop()
	b.mode = b.back
}

// say lays a text, if there is any.
func (b *Builder) say(s string) {
	if s == "" {
		return
	}
	at := b.placeWithin(b.stack.Top())
	if b.d.Say(at.up, s, at.before) == api.ErrNodes {
		b.fail(api.ErrNodes)
	}
}

// comment lays a comment.
func (b *Builder) comment(t token.Token) {
	b.commentIn(t, b.placeWithin(b.stack.Top()))
}

func (b *Builder) commentIn(t token.Token, at place) {
	if n := b.add(dom.Node{Kind: dom.Comment, Data: t.Data}); n != dom.None {
		b.lay(n, at)
	}
}

// give lets an open element have the attributes of a tag that it lacks.
func (b *Builder) give(at int, t token.Token) {
	node := &b.d.Nodes[b.stack.All[at]]
	for _, a := range t.Attrs {
		if _, found := token.Get(node.Attrs, a.Name); !found {
			node.Attrs = append(node.Attrs, a)
		}
	}
}
