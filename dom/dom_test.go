package dom_test

import (
	"fmt"
	"math"
	"slices"
	"testing"

	"woodcut/api"
	"woodcut/dom"
	"woodcut/token"
)

// element, text and note are nodes of their kinds.
func element(name string) dom.Node { return dom.Node{Kind: dom.Element, Name: name} }

func text(s string) dom.Node { return dom.Node{Kind: dom.Text, Data: s} }

func note(s string) dom.Node { return dom.Node{Kind: dom.Comment, Data: s} }

// state is all of a tree as a text: what is the same before and behind a call was not changed by it.
func state(d *dom.Doc) string { return fmt.Sprint(d.Nodes, d.Quirks) }

// put is a node added, and put behind the kids of another one.
func put(t *testing.T, d *dom.Doc, up int, n dom.Node) int {
	t.Helper()
	at := d.Add(n)
	if err := d.Put(up, at, dom.None); err != api.OK {
		t.Fatalf("Put(%d, %d): error %d", up, at, err)
	}
	return at
}

// whole tells of a tree whose nodes don't fit each other.
func whole(t *testing.T, d *dom.Doc) {
	t.Helper()
	stands := 0
	for n, node := range d.Nodes {
		for _, kid := range node.Kids {
			if d.Up(kid) != n {
				t.Fatalf("%d is a kid of %d, but its Up is %d", kid, n, d.Up(kid))
			}
		}
		stands += len(node.Kids)
		if node.Up != dom.None {
			stands--
		}
		if d.Is(n, "template") != (node.Inner == n+1) || !d.Is(n, "template") && node.Inner != dom.None {
			t.Fatalf("%d has Inner %d", n, node.Inner)
		}
	}
	if stands != 0 {
		t.Fatalf("there are %d kids more than nodes with an Up", stands)
	}
}

// filled is a tree of so many nodes.
func filled(n int) *dom.Doc {
	d := dom.New()
	for len(d.Nodes) < n {
		d.Add(note("filled"))
	}
	return d
}

// nowhere is numbers that no small tree has a node of.
func nowhere(d *dom.Doc) []int {
	return []int{dom.None, -2, math.MinInt, len(d.Nodes), len(d.Nodes) + 1, math.MaxInt}
}

// P8.1

func TestConstants(t *testing.T) {
	kinds := []int{dom.Page, dom.Element, dom.Text, dom.Comment, dom.Doctype}
	spaces := []int{dom.HTML, dom.SVG, dom.Math}
	if !slices.Equal(kinds, []int{1, 2, 3, 4, 5}) || !slices.Equal(spaces, []int{0, 1, 2}) || dom.Root != 0 || dom.None != -1 {
		t.Error("the constants")
	}
}

func TestNewIsAPageAlone(t *testing.T) {
	d := dom.New()
	if len(d.Nodes) != 1 || d.Quirks || d.Kind(dom.Root) != dom.Page || d.Up(dom.Root) != dom.None || len(d.Kids(dom.Root)) != 0 || d.Nodes[0].Inner != dom.None {
		t.Errorf("New is %v", state(d))
	}
	dom.New().Add(element("p"))
	put(t, d, dom.Root, element("p"))
	if len(dom.New().Nodes) != 1 || len(d.Nodes) != 2 {
		t.Error("trees share nodes")
	}
}

func TestAddKeepsWhatItIsGiven(t *testing.T) {
	d := dom.New()
	given := dom.Node{Kind: dom.Element, Space: dom.SVG, Name: "n", Data: "d", Attrs: []token.Attr{{Name: "a", Val: "1"}},
		Public: "p", System: "s", Up: dom.Root, Kids: []int{0, 1}, Inner: 7}
	if at := d.Add(given); at != 1 {
		t.Fatalf("the first number is %d", at)
	}
	if given.Up != dom.Root || len(given.Kids) != 2 || given.Inner != 7 {
		t.Error("Add changes what it is given")
	}
	n := d.Nodes[1]
	if n.Kind != dom.Element || n.Space != dom.SVG || n.Name != "n" || n.Data != "d" || n.Public != "p" || n.System != "s" || !slices.Equal(n.Attrs, given.Attrs) {
		t.Errorf("Add made %v", n)
	}
	if n.Up != dom.None || len(n.Kids) != 0 || n.Inner != dom.None || len(d.Kids(dom.Root)) != 0 {
		t.Errorf("the node stands somewhere: %v", n)
	}
	given.Attrs[0].Val = "x"
	if d.Nodes[1].Attrs[0].Val != "1" {
		t.Error("Add keeps the attributes that it is given")
	}
}

func TestAddNumbersNodes(t *testing.T) {
	d := dom.New()
	for i, c := range []struct {
		node      dom.Node
		at, inner int
	}{
		{text("a"), 1, dom.None},
		{element("template"), 2, 3},
		{element("template"), 4, 5},
		{element("Template"), 6, dom.None},
		{dom.Node{Kind: dom.Element, Space: dom.SVG, Name: "template"}, 7, dom.None},
		{dom.Node{Kind: dom.Element, Space: dom.Math, Name: "template"}, 8, dom.None},
		{dom.Node{Kind: dom.Doctype, Name: "template"}, 9, dom.None},
		{dom.Node{Kind: dom.Text, Name: "template", Data: "template"}, 10, dom.None},
		{dom.Node{Kind: dom.Page, Name: "template"}, 11, dom.None},
		{dom.Node{}, 12, dom.None},
		{dom.Node{Kind: -3, Space: 99}, 13, dom.None},
		{element(""), 14, dom.None},
	} {
		if at := d.Add(c.node); at != c.at || d.Nodes[at].Inner != c.inner {
			t.Errorf("case %d stands at %d with Inner %d, want %d, %d", i, at, d.Nodes[at].Inner, c.at, c.inner)
		}
	}
	for _, inner := range []int{3, 5} {
		n := d.Nodes[inner]
		if n.Kind != dom.Page || n.Up != dom.None || n.Inner != dom.None || n.Name != "" || len(n.Kids) != 0 {
			t.Errorf("the contents are %v", n)
		}
	}
	if len(d.Nodes) != 15 {
		t.Errorf("%d nodes", len(d.Nodes))
	}
	d.Out(14)
	if d.Add(text("b")) != 15 {
		t.Error("a node that was taken out gives its number away")
	}
	whole(t, d)
}

func TestAddUpToTheMost(t *testing.T) {
	for _, c := range []struct {
		nodes int
		name  string
		at    int
	}{
		{api.MaxNodes - 1, "p", api.MaxNodes - 1},
		{api.MaxNodes, "p", dom.None},
		{api.MaxNodes - 2, "template", api.MaxNodes - 2},
		{api.MaxNodes - 1, "template", dom.None},
		{api.MaxNodes, "template", dom.None},
	} {
		d := filled(c.nodes)
		if at := d.Add(element(c.name)); at != c.at {
			t.Errorf("%s as a node more than %d: %d, want %d", c.name, c.nodes, at, c.at)
		}
		if c.at == dom.None && len(d.Nodes) != c.nodes {
			t.Errorf("%s, refused, leaves %d nodes", c.name, len(d.Nodes))
		}
	}
	d := filled(api.MaxNodes - 1)
	if d.Add(element("template")) != dom.None || d.Add(element("p")) != api.MaxNodes-1 || d.Add(element("p")) != dom.None {
		t.Error("the last node")
	}
}

func TestKindNameIs(t *testing.T) {
	d := dom.New()
	for _, c := range []struct {
		node     dom.Node
		name     string
		isP      bool
		isNoname bool
	}{
		{element("p"), "p", true, false},
		{element("P"), "P", false, false},
		{element(""), "", false, true},
		{dom.Node{Kind: dom.Element, Space: dom.SVG, Name: "p"}, "p", false, false},
		{dom.Node{Kind: dom.Element, Space: dom.Math, Name: "p"}, "p", false, false},
		{dom.Node{Kind: dom.Element, Space: -1, Name: "p"}, "p", false, false},
		{dom.Node{Kind: dom.Doctype, Name: "p"}, "", false, false},
		{dom.Node{Kind: dom.Text, Name: "p", Data: "p"}, "", false, false},
		{dom.Node{Kind: dom.Comment, Name: "p"}, "", false, false},
		{dom.Node{Kind: dom.Page, Name: "p"}, "", false, false},
		{dom.Node{Kind: 0, Name: "p"}, "", false, false},
	} {
		n := d.Add(c.node)
		if d.Kind(n) != c.node.Kind || d.Name(n) != c.name || d.Is(n, "a", "p", "b") != c.isP || d.Is(n, "p") != c.isP || d.Is(n, "") != c.isNoname {
			t.Errorf("%v: Kind %d, Name %q, Is p %v", c.node, d.Kind(n), d.Name(n), d.Is(n, "p"))
		}
		if d.Is(n) || d.Is(n, "a", "b") {
			t.Errorf("%v Is a name that it hasn't", c.node)
		}
	}
	if d.Kind(dom.Root) != dom.Page || d.Name(dom.Root) != "" || d.Is(dom.Root, "") {
		t.Error("the page")
	}
}

func TestUpAndKids(t *testing.T) {
	d := dom.New()
	list := put(t, d, dom.Root, element("ul"))
	var items []int
	for range 5 {
		items = append(items, put(t, d, list, element("li")))
	}
	if !slices.Equal(d.Kids(dom.Root), []int{list}) || !slices.Equal(d.Kids(list), items) || d.Up(list) != dom.Root || d.Up(items[4]) != list || d.Up(dom.Root) != dom.None {
		t.Error(state(d))
	}
	kids := d.Kids(list)
	for i := range kids[:cap(kids)] {
		kids[:cap(kids)][i] = 0
	}
	if !slices.Equal(d.Kids(list), items) {
		t.Error("Kids hands out the tree's own memory")
	}
	kids = d.Kids(list)
	d.Out(items[0])
	if !slices.Equal(kids, items) {
		t.Error("a change of the tree changes what Kids answered")
	}
}

func TestContentsAreNoKids(t *testing.T) {
	d := dom.New()
	tm := put(t, d, dom.Root, element("template"))
	in := d.Nodes[tm].Inner
	p := put(t, d, in, element("p"))
	if len(d.Kids(tm)) != 0 || d.Up(in) != dom.None || d.Up(p) != in || !slices.Equal(d.Kids(in), []int{p}) {
		t.Error(state(d))
	}
}

func TestNumbersOfNoNode(t *testing.T) {
	d := dom.New()
	put(t, d, dom.Root, element("p"))
	asks := func(d *dom.Doc, n int) {
		if d.Kind(n) != 0 || d.Name(n) != "" || d.Is(n, "", "p") || d.Up(n) != dom.None || len(d.Kids(n)) != 0 || d.Words(n) != "" || d.Deep(n) != 0 {
			t.Errorf("%d has a node", n)
		}
		for range d.Walk(n) {
			t.Errorf("Walk(%d) shows a node", n)
		}
		for range d.Find(n, "p") {
			t.Errorf("Find(%d) shows a node", n)
		}
		d.Out(n)
	}
	before := state(d)
	for _, n := range nowhere(d) {
		asks(d, n)
	}
	if state(d) != before {
		t.Error("numbers of no node change the tree")
	}
	var none *dom.Doc
	for _, n := range append(nowhere(d), 0, 1) {
		asks(none, n)
		if none.Put(n, 1, dom.None) != api.ErrArg || none.Say(n, "s", dom.None) != api.ErrArg || none.Move(n, 1) != api.ErrArg {
			t.Error("a nil Doc is changed")
		}
		if none.Take(d, n) != dom.None || d.Take(none, n) != dom.None {
			t.Error("Take with a nil Doc")
		}
	}
	if none.Add(element("p")) != dom.None || none.Add(element("template")) != dom.None {
		t.Error("a nil Doc grows")
	}
	if state(d) != before {
		t.Error("Take of nothing changes the tree")
	}
}
