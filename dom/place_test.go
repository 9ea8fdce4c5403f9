package dom_test

import (
	"slices"
	"strings"
	"testing"

	"woodcut/api"
	"woodcut/dom"
)

// row is a tree with a div that has so many kids.
func row(t *testing.T, n int) (d *dom.Doc, div int, kids []int) {
	t.Helper()
	d = dom.New()
	div = put(t, d, dom.Root, element("div"))
	for range n {
		kids = append(kids, put(t, d, div, element("p")))
	}
	return d, div, kids
}

// refuses tells of a Put that doesn't answer this error, or that changes something.
func refuses(t *testing.T, d *dom.Doc, up, n, before int, want api.Errno) {
	t.Helper()
	was := state(d)
	if err := d.Put(up, n, before); err != want {
		t.Errorf("Put(%d, %d, %d): error %d, want %d", up, n, before, err, want)
	}
	if state(d) != was {
		t.Errorf("Put(%d, %d, %d), refused, changes the tree", up, n, before)
	}
}

// P8.2: Put

func TestPutPlaces(t *testing.T) {
	for _, c := range []struct{ before, at int }{{dom.None, 3}, {0, 0}, {1, 1}, {2, 2}} {
		d, div, kids := row(t, 3)
		other := put(t, d, dom.Root, element("section"))
		for _, n := range []int{d.Add(element("new")), put(t, d, other, element("moved")), other} {
			before := dom.None
			if c.before != dom.None {
				before = kids[c.before]
			}
			if err := d.Put(div, n, before); err != api.OK {
				t.Fatalf("Put: error %d", err)
			}
			whole(t, d)
			if want := slices.Insert(slices.Clone(kids), c.at, n); !slices.Equal(d.Kids(div), want) || d.Up(n) != div {
				t.Errorf("before %d: %v, want %v", c.before, d.Kids(div), want)
			}
			d.Out(n)
		}
		if len(d.Kids(other)) != 0 || !slices.Equal(d.Kids(dom.Root), []int{div}) {
			t.Error("a node that was put elsewhere still stands where it stood")
		}
	}
}

func TestPutAmongTheSameKids(t *testing.T) {
	for n := range 4 {
		for before := -1; before < 4; before++ {
			if before == n {
				continue
			}
			d, div, kids := row(t, 4)
			number := dom.None
			want := slices.DeleteFunc(slices.Clone(kids), func(k int) bool { return k == kids[n] })
			if before < 0 {
				want = append(want, kids[n])
			} else {
				number = kids[before]
				want = slices.Insert(want, slices.Index(want, number), kids[n])
			}
			if err := d.Put(div, kids[n], number); err != api.OK || !slices.Equal(d.Kids(div), want) {
				t.Errorf("kid %d before %d: error %d, %v, want %v", n, before, err, d.Kids(div), want)
			}
			whole(t, d)
		}
	}
}

func TestPutBeneathAllThatHolds(t *testing.T) {
	d := dom.New()
	tm := put(t, d, dom.Root, element("template"))
	page := d.Add(dom.Node{Kind: dom.Page})
	for _, up := range []int{dom.Root, tm, tm + 1, page, d.Add(dom.Node{Kind: dom.Element, Space: dom.SVG, Name: "br"})} {
		n := d.Add(text("s"))
		if d.Put(up, n, dom.None) != api.OK || d.Up(n) != up {
			t.Errorf("Put beneath %d", up)
		}
	}
	for _, node := range []dom.Node{text("s"), note("s"), {Kind: dom.Doctype, Name: "html"}, {Kind: 0}, {Kind: 9}} {
		n := d.Add(node)
		if d.Put(dom.Root, n, tm) != api.OK || d.Up(n) != dom.Root {
			t.Errorf("Put of %v", node)
		}
		refuses(t, d, n, d.Add(text("s")), dom.None, api.ErrArg)
	}
	whole(t, d)
}

func TestPutRefuses(t *testing.T) {
	d, div, kids := row(t, 2)
	p := kids[0]
	em := put(t, d, p, element("em"))
	word := put(t, d, em, text("word"))
	loose := d.Add(element("loose"))
	tm := put(t, d, div, element("template"))
	page := d.Add(dom.Node{Kind: dom.Page})
	for _, n := range nowhere(d) {
		refuses(t, d, n, loose, dom.None, api.ErrArg)
		refuses(t, d, div, n, dom.None, api.ErrArg)
		refuses(t, d, div, n, n, api.ErrArg)
		if n != dom.None {
			refuses(t, d, div, loose, n, api.ErrNone)
			refuses(t, d, div, p, n, api.ErrNone)
		}
	}
	for _, c := range []struct {
		name          string
		up, n, before int
		want          api.Errno
	}{
		{"the page", div, dom.Root, dom.None, api.ErrArg},
		{"the page beneath itself", dom.Root, dom.Root, dom.None, api.ErrArg},
		{"a template's contents", div, tm + 1, dom.None, api.ErrArg},
		{"a template's contents beneath it", tm, tm + 1, dom.None, api.ErrArg},
		{"a page that was added", div, page, dom.None, api.ErrArg},
		{"before itself", div, p, p, api.ErrArg},
		{"before itself, loose", div, loose, loose, api.ErrArg},
		{"beneath a text", word, loose, dom.None, api.ErrArg},
		{"beneath itself", p, p, dom.None, api.ErrArg},
		{"beneath itself, loose", loose, loose, dom.None, api.ErrArg},
		{"beneath its kid", p, div, dom.None, api.ErrArg},
		{"beneath its kid's kid", em, div, dom.None, api.ErrArg},
		{"a template beneath its contents", tm + 1, tm, dom.None, api.ErrArg},
		{"what a template is in, beneath its contents", tm + 1, div, dom.None, api.ErrArg},
		{"before a node that stands nowhere", div, p, loose, api.ErrNone},
		{"before a kid of another one", div, loose, em, api.ErrNone},
		{"before a kid's kid, a node of its own", div, em, word, api.ErrNone},
		{"before the node itself above", div, loose, div, api.ErrNone},
		{"before the page", div, loose, dom.Root, api.ErrNone},
		{"before a template's contents", div, loose, tm + 1, api.ErrNone},
		{"before a template's contents, beneath it", tm, loose, tm + 1, api.ErrNone},
		{"both: beneath its kid, before a node elsewhere", p, div, loose, api.ErrArg},
		{"both: beneath a text, before a node elsewhere", word, loose, em, api.ErrArg},
		{"both: the page, before a node elsewhere", div, dom.Root, em, api.ErrArg},
	} {
		t.Run(c.name, func(t *testing.T) { refuses(t, d, c.up, c.n, c.before, c.want) })
	}
}

func TestPutSeesContentsBeneathTemplates(t *testing.T) {
	d := dom.New()
	outer := put(t, d, dom.Root, element("template"))
	div := put(t, d, outer+1, element("div"))
	inner := put(t, d, div, element("template"))
	p := put(t, d, inner+1, element("p"))
	own := put(t, d, outer, element("own"))
	for _, up := range []int{outer + 1, div, inner, inner + 1, p, own} {
		refuses(t, d, up, outer, dom.None, api.ErrArg)
	}
	for _, up := range []int{inner, inner + 1, p} {
		refuses(t, d, up, div, dom.None, api.ErrArg)
	}
	// What stands right behind a template's contents has nothing to do with them.
	next := d.Add(element("next"))
	last := put(t, d, next, element("last"))
	if d.Put(p, next, dom.None) != api.OK || d.Put(dom.Root, inner, dom.None) != api.OK || d.Put(inner+1, outer, dom.None) != api.OK {
		t.Error("a node that isn't beneath it is refused")
	}
	refuses(t, d, last, inner, dom.None, api.ErrArg)
	refuses(t, d, outer+1, inner, dom.None, api.ErrArg)
	whole(t, d)
}

// P8.2: Out

func TestOut(t *testing.T) {
	d, div, kids := row(t, 3)
	put(t, d, kids[1], text("s"))
	d.Out(kids[1])
	if d.Up(kids[1]) != dom.None || !slices.Equal(d.Kids(div), []int{kids[0], kids[2]}) || d.Words(kids[1]) != "s" {
		t.Error(state(d))
	}
	whole(t, d)
	was := state(d)
	d.Out(kids[1])
	d.Out(dom.Root)
	d.Out(d.Add(text("loose")))
	d.Nodes = d.Nodes[:len(d.Nodes)-1]
	if state(d) != was {
		t.Error("Out of a node that stands nowhere changes something")
	}
	tm := put(t, d, div, element("template"))
	put(t, d, tm+1, text("in"))
	was = state(d)
	d.Out(tm + 1)
	if state(d) != was {
		t.Error("Out parts a template from its contents")
	}
	d.Out(div)
	if len(d.Kids(dom.Root)) != 0 || len(d.Kids(div)) != 3 {
		t.Error("Out of a node with kids")
	}
}

// P8.2: Say

// told is the kids of a node: texts by their words, others by their names.
func told(d *dom.Doc, n int) string {
	var out []string
	for _, kid := range d.Kids(n) {
		if d.Kind(kid) == dom.Text {
			out = append(out, "'"+d.Nodes[kid].Data+"'")
		} else {
			out = append(out, d.Name(kid))
		}
	}
	return strings.Join(out, " ")
}

func TestSayOfTheDocument(t *testing.T) {
	d := dom.New()
	p := put(t, d, dom.Root, element("p"))
	if d.Say(p, "a", dom.None) != api.OK || d.Say(p, "b", dom.None) != api.OK || len(d.Kids(p)) != 1 || d.Words(p) != "ab" || len(d.Nodes) != 3 {
		t.Error(state(d))
	}
}

func TestSay(t *testing.T) {
	d := dom.New()
	div := put(t, d, dom.Root, element("div"))
	b, i, u := d.Add(element("b")), d.Add(element("i")), d.Add(element("u"))
	for _, n := range []int{b, i, u} {
		d.Put(div, n, dom.None)
	}
	for _, c := range []struct {
		before, nodes int
		want          string
	}{
		{i, 6, "b 's' i u"},
		{i, 6, "b 'ss' i u"},
		{b, 7, "'s' b 'ss' i u"},
		{b, 7, "'ss' b 'ss' i u"},
		{dom.None, 8, "'ss' b 'ss' i u 's'"},
		{dom.None, 8, "'ss' b 'ss' i u 'ss'"},
		{u, 9, "'ss' b 'ss' i 's' u 'ss'"},
	} {
		if err := d.Say(div, "s", c.before); err != api.OK || told(d, div) != c.want || len(d.Nodes) != c.nodes {
			t.Errorf("error %d, %s, %d nodes, want %s, %d nodes", err, told(d, div), len(d.Nodes), c.want, c.nodes)
		}
		whole(t, d)
	}
	first := d.Kids(div)[0]
	n := d.Nodes[first]
	if n.Kind != dom.Text || n.Space != dom.HTML || n.Name != "" || len(n.Attrs) != 0 || n.Public != "" || n.System != "" || n.Inner != dom.None {
		t.Errorf("the text is %v", n)
	}
}

func TestSayAheadOfAText(t *testing.T) {
	d := dom.New()
	put(t, d, dom.Root, element("b"))
	last := put(t, d, dom.Root, text("t"))
	if d.Say(dom.Root, "s", last) != api.OK || told(d, dom.Root) != "b 's' 't'" {
		t.Errorf("a text behind grows: %s", told(d, dom.Root))
	}
	if d.Say(dom.Root, "s", last) != api.OK || told(d, dom.Root) != "b 'ss' 't'" {
		t.Errorf("a text ahead doesn't grow: %s", told(d, dom.Root))
	}
}

func TestSayBehindOtherKinds(t *testing.T) {
	d := dom.New()
	put(t, d, dom.Root, note("n"))
	tm := put(t, d, dom.Root, element("template"))
	page := d.Add(dom.Node{Kind: dom.Page})
	for _, up := range []int{dom.Root, tm, tm + 1, page} {
		nodes := len(d.Nodes)
		if d.Say(up, "s", dom.None) != api.OK || d.Say(up, "t", dom.None) != api.OK || len(d.Nodes) != nodes+1 || d.Nodes[nodes].Data != "st" || d.Up(nodes) != up {
			t.Errorf("Say beneath %d: %s", up, state(d))
		}
	}
	if d.Nodes[1].Data != "n" {
		t.Error("a comment grows")
	}
	whole(t, d)
}

func TestSayRefuses(t *testing.T) {
	d, div, kids := row(t, 2)
	em := put(t, d, kids[0], element("em"))
	says := func(up int, s string, before int, want api.Errno) {
		t.Helper()
		was := state(d)
		if err := d.Say(up, s, before); err != want {
			t.Errorf("Say(%d, %q, %d): error %d, want %d", up, s, before, err, want)
		}
		if state(d) != was {
			t.Errorf("Say(%d, %q, %d), refused, changes the tree", up, s, before)
		}
	}
	for _, n := range nowhere(d) {
		says(n, "s", dom.None, api.ErrArg)
		says(n, "s", div, api.ErrArg)
		says(n, "", dom.None, api.ErrArg)
		if n != dom.None {
			says(div, "s", n, api.ErrNone)
		}
	}
	says(div, "", dom.None, api.ErrArg)
	says(div, "", kids[0], api.ErrArg)
	says(div, "", em, api.ErrArg)
	says(div, "s", em, api.ErrNone)
	says(div, "s", div, api.ErrNone)
	says(div, "s", dom.Root, api.ErrNone)
	word := put(t, d, em, text("word"))
	says(word, "s", em, api.ErrNone)
	says(word, "", dom.None, api.ErrArg)
}

func TestSayBeneathWhatHoldsNothing(t *testing.T) {
	for _, node := range []dom.Node{text("t"), note("n"), {Kind: dom.Doctype, Name: "html"}, {}} {
		d := dom.New()
		up := put(t, d, dom.Root, node)
		if err := d.Say(up, "s", dom.None); err != api.ErrArg {
			t.Errorf("%v: error %d", node, err)
		}
		if len(d.Nodes) != 3 || d.Kind(2) != dom.Text || d.Nodes[2].Data != "s" || d.Up(2) != dom.None || len(d.Kids(up)) != 0 || d.Nodes[up].Data != node.Data {
			t.Errorf("%v: %s", node, state(d))
		}
		whole(t, d)
	}
}

func TestSayWithTooManyNodes(t *testing.T) {
	d := dom.New()
	p := put(t, d, dom.Root, element("p"))
	word := put(t, d, p, text("a"))
	b := put(t, d, p, element("b"))
	for len(d.Nodes) < api.MaxNodes {
		d.Add(note(""))
	}
	was := state(d)
	for _, up := range []int{b, word, dom.Root, api.MaxNodes - 1} {
		if err := d.Say(up, "s", dom.None); err != api.ErrNodes {
			t.Errorf("Say(%d): error %d", up, err)
		}
	}
	if d.Say(p, "s", word) != api.ErrNodes || d.Say(p, "s", dom.None) != api.ErrNodes || d.Say(p, "", dom.None) != api.ErrArg || d.Say(p, "s", p) != api.ErrNone {
		t.Error("errors where there is no room")
	}
	if state(d) != was {
		t.Error("what is refused changes something")
	}
	if d.Say(p, "b", b) != api.OK || d.Nodes[word].Data != "ab" {
		t.Error("a text doesn't grow where there is no room for one more")
	}
}

// P8.2: Move

func TestMove(t *testing.T) {
	d, div, kids := row(t, 4)
	other := put(t, d, dom.Root, element("section"))
	last := put(t, d, other, text("last"))
	under := put(t, d, kids[2], text("under"))
	if err := d.Move(div, other); err != api.OK {
		t.Fatalf("Move: error %d", err)
	}
	whole(t, d)
	if len(d.Kids(div)) != 0 || !slices.Equal(d.Kids(other), append([]int{last}, kids...)) || d.Up(under) != kids[2] || d.Up(div) != dom.Root {
		t.Error(state(d))
	}
	if d.Move(other, dom.Root) != api.OK || !slices.Equal(d.Kids(dom.Root), slices.Concat([]int{div, other, last}, kids)) {
		t.Error("Move to the page")
	}
	tm := d.Add(element("template"))
	if d.Move(dom.Root, tm+1) != api.OK || len(d.Kids(tm+1)) != 7 || len(d.Kids(dom.Root)) != 0 {
		t.Error("Move to a template's contents")
	}
	if d.Move(tm, div) != api.OK || len(d.Kids(div)) != 0 {
		t.Error("a template's contents are no kids of it")
	}
	whole(t, d)
}

func TestMoveRefuses(t *testing.T) {
	d, div, kids := row(t, 3)
	word := put(t, d, kids[1], text("word"))
	was := state(d)
	for _, n := range nowhere(d) {
		if d.Move(n, div) != api.ErrArg || d.Move(div, n) != api.ErrArg || d.Move(n, n) != api.ErrArg {
			t.Errorf("Move with %d", n)
		}
	}
	if d.Move(div, div) != api.ErrArg || d.Move(kids[0], kids[0]) != api.ErrArg || d.Move(div, word) != api.ErrArg {
		t.Error("Move")
	}
	if d.Move(kids[0], word) != api.OK || d.Move(word, div) != api.OK {
		t.Error("Move of nothing")
	}
	if state(d) != was {
		t.Error("Move of nothing, or refused at the first kid, changes something")
	}
}

func TestMoveStopsAtTheFirstError(t *testing.T) {
	d, div, kids := row(t, 4)
	em := put(t, d, kids[2], element("em"))
	if err := d.Move(div, em); err != api.ErrArg {
		t.Errorf("error %d", err)
	}
	whole(t, d)
	if !slices.Equal(d.Kids(em), kids[:2]) || !slices.Equal(d.Kids(div), kids[2:]) {
		t.Errorf("%v went, %v stayed", d.Kids(em), d.Kids(div))
	}
	d, div, kids = row(t, 3)
	if d.Move(div, kids[1]) != api.ErrArg || !slices.Equal(d.Kids(kids[1]), kids[:1]) || !slices.Equal(d.Kids(div), kids[1:]) {
		t.Error("Move to a kid")
	}
}

func TestMoveUp(t *testing.T) {
	d, div, kids := row(t, 3)
	if d.Move(div, dom.Root) != api.OK || !slices.Equal(d.Kids(dom.Root), append([]int{div}, kids...)) {
		t.Error(state(d))
	}
}
