package dom_test

import (
	"slices"
	"testing"

	"woodcut/api"
	"woodcut/dom"
	"woodcut/token"
)

// sight is a node that Walk shows, and how deep it is.
type sight struct{ n, depth int }

func walked(d *dom.Doc, n int) []sight {
	var out []sight
	for kid, depth := range d.Walk(n) {
		out = append(out, sight{kid, depth})
	}
	return out
}

// grove is a tree with a template among its nodes; own and loose aren't to be seen.
type grove struct {
	*dom.Doc
	doctype, html, p, word, em, deep, tm, in, inP, inWord, own, ownWord, svgP, last, loose int
}

func newGrove(t *testing.T) grove {
	g := grove{Doc: dom.New()}
	g.doctype = put(t, g.Doc, dom.Root, dom.Node{Kind: dom.Doctype, Name: "p", Data: "no text"})
	g.html = put(t, g.Doc, dom.Root, element("html"))
	g.last = put(t, g.Doc, dom.Root, text("last"))
	g.svgP = put(t, g.Doc, g.html, dom.Node{Kind: dom.Element, Space: dom.SVG, Name: "p"})
	g.tm = g.Add(element("template"))
	g.in = g.tm + 1
	g.Put(g.html, g.tm, g.svgP)
	g.p = g.Add(element("p"))
	g.Put(g.html, g.p, g.tm)
	g.word = put(t, g.Doc, g.p, text("word"))
	g.em = put(t, g.Doc, g.p, element("em"))
	g.deep = put(t, g.Doc, g.em, text("deep"))
	g.inP = put(t, g.Doc, g.in, element("p"))
	g.inWord = put(t, g.Doc, g.inP, text("in"))
	g.own = put(t, g.Doc, g.tm, element("p"))
	g.ownWord = put(t, g.Doc, g.own, text("own"))
	g.loose = g.Add(element("p"))
	put(t, g.Doc, g.svgP, note("no text"))
	whole(t, g.Doc)
	return g
}

// P8.3

func TestWalk(t *testing.T) {
	g := newGrove(t)
	comment := g.Kids(g.svgP)[0]
	ofP := []sight{{g.word, 1}, {g.em, 1}, {g.deep, 2}}
	ofContents := []sight{{g.inP, 1}, {g.inWord, 2}}
	all := []sight{{g.doctype, 1}, {g.html, 1}, {g.p, 2}, {g.word, 3}, {g.em, 3}, {g.deep, 4}, {g.tm, 2}, {g.inP, 3}, {g.inWord, 4}, {g.svgP, 2}, {comment, 3}, {g.last, 1}}
	for _, c := range []struct {
		n     int
		want  []sight
		deep  int
		words string
		found []int
	}{
		{dom.Root, all, 4, "worddeepinlast", []int{g.p, g.inP}},
		{g.p, ofP, 2, "worddeep", nil},
		{g.tm, ofContents, 2, "in", []int{g.inP}},
		{g.in, ofContents, 2, "in", []int{g.inP}},
		{g.own, []sight{{g.ownWord, 1}}, 1, "own", nil},
		{g.word, nil, 0, "", nil},
		{g.doctype, nil, 0, "", nil},
		{g.loose, nil, 0, "", nil},
	} {
		if got := walked(g.Doc, c.n); !slices.Equal(got, c.want) {
			t.Errorf("Walk(%d) shows %v, want %v", c.n, got, c.want)
		}
		if got := g.Deep(c.n); got != c.deep {
			t.Errorf("Deep(%d) = %d, want %d", c.n, got, c.deep)
		}
		if got := g.Words(c.n); got != c.words {
			t.Errorf("Words(%d) = %q, want %q", c.n, got, c.words)
		}
		if got := slices.Collect(g.Find(c.n, "p")); !slices.Equal(got, c.found) {
			t.Errorf("Find(%d) shows %v, want %v", c.n, got, c.found)
		}
	}
}

func TestFindOtherNames(t *testing.T) {
	g := newGrove(t)
	for name, want := range map[string][]int{"html": {g.html}, "template": {g.tm}, "em": {g.em}, "": nil, "P": nil, "b": nil} {
		if got := slices.Collect(g.Find(dom.Root, name)); !slices.Equal(got, want) {
			t.Errorf("Find(%q) shows %v, want %v", name, got, want)
		}
	}
}

func TestLoopsAreLeftAndBegunAgain(t *testing.T) {
	g := newGrove(t)
	walk, find := g.Walk(dom.Root), g.Find(dom.Root, "p")
	all := walked(g.Doc, dom.Root)
	for most := 1; most <= len(all)+1; most++ {
		var got []sight
		for n, depth := range walk {
			got = append(got, sight{n, depth})
			if len(got) == most {
				break
			}
		}
		if !slices.Equal(got, all[:min(most, len(all))]) {
			t.Errorf("Walk, left behind %d nodes, shows %v", most, got)
		}
	}
	for range 2 {
		for n := range find {
			if n != g.p {
				t.Errorf("Find shows %d first", n)
			}
			break
		}
	}
	if !slices.Equal(slices.Collect(find), []int{g.p, g.inP}) {
		t.Error("Find, begun again")
	}
	put(t, g.Doc, g.html, element("p"))
	if len(slices.Collect(find)) != 3 {
		t.Error("Find doesn't go through the tree as it is now")
	}
}

func TestTemplatesInTemplates(t *testing.T) {
	d := dom.New()
	outer := put(t, d, dom.Root, element("template"))
	inner := put(t, d, outer+1, element("template"))
	word := put(t, d, inner+1, text("in"))
	put(t, d, inner, text("hidden"))
	put(t, d, outer, text("hidden"))
	svg := put(t, d, outer+1, dom.Node{Kind: dom.Element, Space: dom.SVG, Name: "template"})
	own := put(t, d, svg, text("own"))
	want := []sight{{outer, 1}, {inner, 2}, {word, 3}, {svg, 2}, {own, 3}}
	if got := walked(d, dom.Root); !slices.Equal(got, want) || d.Words(dom.Root) != "inown" || d.Deep(dom.Root) != 3 {
		t.Errorf("%v, want %v", got, want)
	}
}

// chain is a tree of as many nodes as there may be, each beneath the one before.
func chain(t *testing.T) *dom.Doc {
	d := dom.New()
	for n := 1; n < api.MaxNodes; n++ {
		put(t, d, n-1, element("b"))
	}
	return d
}

func TestDeepTrees(t *testing.T) {
	d := chain(t)
	if d.Deep(dom.Root) != api.MaxNodes-1 || len(walked(d, 1)) != api.MaxNodes-2 {
		t.Error("Deep of a deep tree")
	}
	refuses(t, d, api.MaxNodes-1, 1, dom.None, api.ErrArg)
	e := dom.New()
	if c := e.Take(d, 1); !dom.Same(d, 1, e, c) || dom.Same(d, 1, e, c+1) {
		t.Error("Take of a deep tree")
	}
}

func TestWideTrees(t *testing.T) {
	d := dom.New()
	for range api.MaxNodes - 3 {
		put(t, d, dom.Root, element("b"))
	}
	div := d.Add(element("div"))
	if d.Move(dom.Root, div) != api.OK || len(d.Kids(div)) != api.MaxNodes-3 || len(d.Kids(dom.Root)) != 0 {
		t.Error("Move of many")
	}
	e := dom.New()
	if c := e.Take(d, div); !dom.Same(d, div, e, c) || !slices.IsSorted(e.Kids(c)) {
		t.Error("Take of many")
	}
}

// Rule 1: trees that no function made.

func TestTreesMadeByHand(t *testing.T) {
	el := dom.Element
	for name, d := range map[string]*dom.Doc{
		"no nodes":     {},
		"zero nodes":   {Nodes: make([]dom.Node, 4)},
		"its own kid":  {Nodes: []dom.Node{{Kind: dom.Page, Up: -1, Inner: -1, Kids: []int{1}}, {Kind: el, Up: 1, Kids: []int{1, 1}, Inner: -1}, {Kind: el, Up: 1}}},
		"a ring":       {Nodes: []dom.Node{{Kind: el, Up: 2, Kids: []int{1, 1}, Inner: -1}, {Kind: el, Up: 0, Kids: []int{2, 2}, Inner: -1}, {Kind: el, Up: 1, Kids: []int{0, 0}, Inner: -1}}},
		"a ring of in": {Nodes: []dom.Node{{Kind: dom.Page, Up: -1, Kids: []int{1}, Inner: -1}, {Kind: el, Name: "template", Up: 0, Inner: 2}, {Kind: dom.Page, Up: -1, Kids: []int{1}, Inner: 2}}},
		"no such kids": {Nodes: []dom.Node{{Kind: dom.Page, Up: 9, Kids: []int{-1, 7, 1, -9}, Inner: 9}, {Kind: el, Up: -5, Kids: []int{99}, Inner: -7}, {Kind: el, Up: 44}}},
	} {
		t.Run(name, func(t *testing.T) {
			for n := -2; n < 6; n++ {
				for m := -2; m < 6; m++ {
					useAll(apart(d), n, m)
				}
			}
		})
	}
}

func TestInnerLeftOut(t *testing.T) {
	d := &dom.Doc{Nodes: []dom.Node{
		{Kind: dom.Page, Up: dom.None, Kids: []int{1}},
		{Kind: dom.Element, Name: "p", Kids: []int{2}},
		{Kind: dom.Text, Data: "s", Up: 1},
	}}
	if got := walked(d, dom.Root); !slices.Equal(got, []sight{{1, 1}, {2, 2}}) || !dom.Same(d, 1, d, 1) {
		t.Errorf("Walk shows %v", got)
	}
}

// apart is the same tree in memory of its own.
func apart(d *dom.Doc) *dom.Doc {
	e := &dom.Doc{Nodes: slices.Clone(d.Nodes)}
	for i, n := range e.Nodes {
		e.Nodes[i].Kids = slices.Clone(n.Kids)
	}
	return e
}

// useAll calls all that there is; none of it may panic, or go on for ever.
func useAll(d *dom.Doc, n, m int) {
	for kid := range d.Walk(n) {
		_ = d.Nodes[kid]
	}
	for range d.Find(n, "template") {
	}
	d.Words(n)
	d.Deep(n)
	d.Kids(n)
	d.Name(n)
	dom.Same(d, n, d, m)
	dom.New().Take(d, n)
	d.Put(n, m, dom.None)
	d.Put(m, n, 1)
	d.Say(n, "s", m)
	d.Say(n, "s", dom.None)
	d.Move(n, m)
	d.Out(n)
	d.Take(d, n)
	d.Add(dom.Node{Kind: dom.Element, Name: "template", Attrs: []token.Attr{{}}})
}
