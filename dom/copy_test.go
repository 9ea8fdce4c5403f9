package dom_test

import (
	"slices"
	"testing"

	"woodcut/api"
	"woodcut/dom"
	"woodcut/token"
)

// P8.4: Take

func TestTake(t *testing.T) {
	g := newGrove(t)
	g.Nodes[g.p].Attrs = []token.Attr{{Name: "a", Val: "1"}, {Name: "b", Val: "2"}}
	was := state(g.Doc)
	for _, n := range []int{g.html, g.p, g.word, g.doctype, g.svgP, g.tm, g.own, g.loose, g.last} {
		e := dom.New()
		at := put(t, e, dom.Root, element("first"))
		c := e.Take(g.Doc, n)
		if c != at+1 {
			t.Errorf("the copy of %d stands at %d", n, c)
		}
		if !dom.Same(g.Doc, n, e, c) || e.Up(c) != dom.None || !slices.Equal(e.Kids(dom.Root), []int{at}) {
			t.Errorf("the copy of %d is other", n)
		}
		if e.Words(c) != g.Words(n) || e.Deep(c) != g.Deep(n) || len(walked(e, c)) != len(walked(g.Doc, n)) {
			t.Errorf("Walk of the copy of %d", n)
		}
		whole(t, e)
	}
	if state(g.Doc) != was {
		t.Error("Take changes the tree from which it takes")
	}
}

func TestTakeKeepsAllOfANode(t *testing.T) {
	d, e := dom.New(), dom.New()
	n := d.Add(dom.Node{Kind: dom.Doctype, Space: dom.Math, Name: "n", Data: "d", Attrs: []token.Attr{{Name: "a", Val: "1"}}, Public: "p", System: "s"})
	c := e.Take(d, n)
	x := e.Nodes[c]
	if x.Kind != dom.Doctype || x.Space != dom.Math || x.Name != "n" || x.Data != "d" || x.Public != "p" || x.System != "s" || !slices.Equal(x.Attrs, d.Nodes[n].Attrs) {
		t.Errorf("the copy is %v", x)
	}
	d.Nodes[n].Attrs[0].Val = "x"
	if e.Nodes[c].Attrs[0].Val != "1" {
		t.Error("the copy shares attributes")
	}
}

func TestTakeTakesContentsAndKids(t *testing.T) {
	g := newGrove(t)
	e := dom.New()
	c := e.Take(g.Doc, g.tm)
	if e.Nodes[c].Inner != c+1 || e.Words(c) != "in" || len(e.Kids(c)) != 1 || e.Words(e.Kids(c)[0]) != "own" || len(e.Nodes) != 1+2+2+2 {
		t.Error(state(e))
	}
}

func TestTakeOfItsOwnNodes(t *testing.T) {
	g := newGrove(t)
	nodes := len(g.Nodes)
	above, words := g.Up(g.html), g.Words(dom.Root)
	c := g.Take(g.Doc, g.html)
	if c != nodes || g.Up(c) != dom.None || !dom.Same(g.Doc, g.html, g.Doc, c) || g.Up(g.html) != above || g.Words(dom.Root) != words {
		t.Error("Take of a node of the same tree")
	}
	whole(t, g.Doc)
	// The copy may stand beneath what it is a copy of.
	if g.Put(g.em, c, dom.None) != api.OK || g.Words(dom.Root) != "worddeep"+"worddeepin"+"in"+"last" {
		t.Errorf("the copy beneath: %q", g.Words(dom.Root))
	}
	g.Say(c, "s", dom.None)
	if dom.Same(g.Doc, g.html, g.Doc, c) {
		t.Error("the copy isn't apart from what it is a copy of")
	}
}

func TestTakeOfNothing(t *testing.T) {
	g := newGrove(t)
	e := dom.New()
	page := g.Add(dom.Node{Kind: dom.Page})
	for _, n := range append(nowhere(g.Doc), dom.Root, g.in, page) {
		if c := e.Take(g.Doc, n); c != dom.None || len(e.Nodes) != 1 {
			t.Errorf("Take(%d) = %d", n, c)
		}
	}
}

func TestTakeWithTooManyNodes(t *testing.T) {
	g := newGrove(t)
	e := dom.New()
	e.Take(g.Doc, g.html)
	need := len(e.Nodes) - 1
	e = filled(api.MaxNodes - need)
	if c := e.Take(g.Doc, g.html); c != api.MaxNodes-need || !dom.Same(g.Doc, g.html, e, c) || len(e.Nodes) != api.MaxNodes {
		t.Error("a copy that just has room")
	}
	for room := range need {
		e := filled(api.MaxNodes - room)
		if c := e.Take(g.Doc, g.html); c != dom.None {
			t.Errorf("room for %d of %d: %d", room, need, c)
		}
		for n := range e.Nodes {
			if e.Up(n) != dom.None || len(e.Kids(n)) != 0 {
				t.Fatalf("room for %d: %d stands somewhere, or something beneath it", room, n)
			}
		}
		// A template has no room where there is room for one node; it is the sixth one here, behind html, p and three nodes beneath that.
		left := api.MaxNodes - len(e.Nodes)
		if left > 1 || left == 1 && room != 6 {
			t.Errorf("room for %d: %d nodes are still free", room, left)
		}
		if room > 0 && e.Name(api.MaxNodes-room) != "html" {
			t.Errorf("room for %d: what was added doesn't remain", room)
		}
	}
}

// P8.4: Same

// The numbers of bush.
const (
	bushDiv = iota + 1
	bushText
	bushTemplate
	bushContents
	bushP
	bushOwn
	bushDoctype
)

// bush is a small tree with nodes of most kinds.
func bush(t *testing.T) *dom.Doc {
	d := dom.New()
	put(t, d, dom.Root, dom.Node{Kind: dom.Element, Name: "div", Attrs: []token.Attr{{Name: "a", Val: "1"}, {Name: "b", Val: "2"}}})
	put(t, d, bushDiv, text("s"))
	put(t, d, bushDiv, element("template"))
	put(t, d, bushContents, element("p"))
	put(t, d, bushTemplate, element("own"))
	put(t, d, bushDiv, dom.Node{Kind: dom.Doctype, Name: "html", Public: "p", System: "s"})
	return d
}

func TestSame(t *testing.T) {
	for name, change := range map[string]func(d *dom.Doc){
		"Kind":                     func(d *dom.Doc) { d.Nodes[bushText].Kind = dom.Comment },
		"Space":                    func(d *dom.Doc) { d.Nodes[bushP].Space = dom.SVG },
		"Name":                     func(d *dom.Doc) { d.Nodes[bushDiv].Name = "p" },
		"a doctype's Name":         func(d *dom.Doc) { d.Nodes[bushDoctype].Name = "" },
		"Data":                     func(d *dom.Doc) { d.Nodes[bushText].Data = "S" },
		"Public":                   func(d *dom.Doc) { d.Nodes[bushDoctype].Public = "s" },
		"System":                   func(d *dom.Doc) { d.Nodes[bushDoctype].System = "p" },
		"no Attrs":                 func(d *dom.Doc) { d.Nodes[bushDiv].Attrs = nil },
		"other Attrs":              func(d *dom.Doc) { d.Nodes[bushDiv].Attrs[0].Val = "2" },
		"Attrs in turn":            func(d *dom.Doc) { slices.Reverse(d.Nodes[bushDiv].Attrs) },
		"a kid more":               func(d *dom.Doc) { d.Put(bushDiv, d.Add(text("")), dom.None) },
		"a kid less":               func(d *dom.Doc) { d.Out(bushDoctype) },
		"kids in turn":             func(d *dom.Doc) { d.Put(bushDiv, bushText, dom.None) },
		"a template's kid less":    func(d *dom.Doc) { d.Out(bushOwn) },
		"a template's kid other":   func(d *dom.Doc) { d.Nodes[bushOwn].Name = "p" },
		"contents less":            func(d *dom.Doc) { d.Out(bushP) },
		"contents more":            func(d *dom.Doc) { d.Say(bushContents, "s", dom.None) },
		"contents other":           func(d *dom.Doc) { d.Nodes[bushP].Name = "b" },
		"contents as kids":         func(d *dom.Doc) { d.Move(bushContents, bushTemplate) },
		"contents other, and deep": func(d *dom.Doc) { d.Say(bushP, "s", dom.None) },
	} {
		a, b := bush(t), bush(t)
		if !dom.Same(a, bushDiv, b, bushDiv) || !dom.Same(a, dom.Root, b, dom.Root) {
			t.Fatal("trees that are the same aren't")
		}
		change(b)
		for _, n := range []int{bushDiv, dom.Root} {
			if dom.Same(a, n, b, n) || dom.Same(b, n, a, n) {
				t.Errorf("%s doesn't matter", name)
			}
			if !dom.Same(b, n, b, n) {
				t.Errorf("%s: a node isn't the same as itself", name)
			}
		}
	}
}

func TestSameLooksAtNothingElse(t *testing.T) {
	a, b := bush(t), bush(t)
	b.Quirks = true
	b.Add(text("loose"))
	b.Put(dom.Root, b.Add(element("ahead")), bushDiv)
	if !dom.Same(a, bushDiv, b, bushDiv) || dom.Same(a, dom.Root, b, dom.Root) {
		t.Error("what isn't beneath a node matters")
	}
	b.Out(bushDiv)
	if !dom.Same(a, bushDiv, b, bushDiv) {
		t.Error("where a node stands matters")
	}
	c := b.Take(a, bushDiv)
	if !dom.Same(a, bushDiv, b, c) || !dom.Same(b, bushDiv, b, c) || dom.Same(b, bushDiv, b, bushP) {
		t.Error("numbers matter")
	}
	b.Nodes[bushP].Attrs = []token.Attr{}
	if !dom.Same(a, bushDiv, b, bushDiv) {
		t.Error("an empty list isn't nil")
	}
	if !dom.Same(a, bushContents, b, bushContents) || dom.Same(a, bushContents, b, bushP) {
		t.Error("contents")
	}
}

func TestSameWithoutNodes(t *testing.T) {
	a, b := bush(t), dom.New()
	for _, m := range nowhere(a) {
		for _, n := range nowhere(b) {
			if !dom.Same(a, m, b, n) || !dom.Same(nil, m, b, n) || !dom.Same(a, m, nil, n) || !dom.Same(nil, m, nil, n) {
				t.Errorf("%d and %d: neither has a node", m, n)
			}
		}
		if dom.Same(a, m, b, dom.Root) || dom.Same(b, dom.Root, a, m) || dom.Same(nil, m, a, bushText) || dom.Same(a, bushText, nil, m) {
			t.Errorf("%d has a node", m)
		}
	}
	if !dom.Same(nil, dom.Root, nil, 5) || dom.Same(nil, dom.Root, a, dom.Root) || dom.Same(a, dom.Root, nil, dom.Root) {
		t.Error("a nil Doc has a node")
	}
}
