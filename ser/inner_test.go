package ser_test

import (
	"fmt"
	"math"
	"slices"
	"strings"
	"testing"

	"woodcut/api"
	"woodcut/dom"
	"woodcut/ser"
	"woodcut/token"
)

// element, text and note are nodes of their kinds.
func element(name string, attrs ...string) dom.Node {
	n := dom.Node{Kind: dom.Element, Name: name}
	for i := 0; i+1 < len(attrs); i += 2 {
		n.Attrs = append(n.Attrs, token.Attr{Name: attrs[i], Val: attrs[i+1]})
	}
	return n
}

func foreign(space int, name string) dom.Node {
	return dom.Node{Kind: dom.Element, Space: space, Name: name}
}

func text(s string) dom.Node { return dom.Node{Kind: dom.Text, Data: s} }

func note(s string) dom.Node { return dom.Node{Kind: dom.Comment, Data: s} }

// put is a node added, and put behind the kids of another one.
func put(t *testing.T, d *dom.Doc, up int, n dom.Node) int {
	t.Helper()
	at := d.Add(n)
	if err := d.Put(up, at, dom.None); err != api.OK {
		t.Fatalf("Put(%d, %d): error %d", up, at, err)
	}
	return at
}

// expect tells of an Inner, or a Page, that is other.
func expect(t *testing.T, d *dom.Doc, n int, want string) {
	t.Helper()
	if got := string(ser.Inner(d, n)); got != want {
		t.Errorf("Inner(%d) is %q, want %q", n, got, want)
	}
	if n == dom.Root && string(ser.Page(d)) != want {
		t.Errorf("Page is %q, want %q", ser.Page(d), want)
	}
}

// P10.2

func TestSingleNodes(t *testing.T) {
	for _, c := range []struct {
		node dom.Node
		want string
	}{
		{element("p"), "<p></p>"},
		{element("P"), "<P></P>"},
		{element(""), "<></>"},
		{element("my-é"), "<my-é></my-é>"},
		{element("p", "a", "1"), `<p a="1"></p>`},
		{element("p", "a", ""), `<p a=""></p>`},
		{element("p", "b", "1", "a", "2", "A", "3"), `<p b="1" a="2" A="3"></p>`},
		{element("p", "a", "1", "a", "2"), `<p a="1" a="2"></p>`},
		{element("p", "xlink:href", "x", "", "y", "<&", "z"), `<p xlink:href="x" ="y" <&="z"></p>`},
		{element("p", "a", "<b c=\"d\">'&amp;\u00a0"), `<p a="&lt;b c=&quot;d&quot;&gt;'&amp;amp;&nbsp;"></p>`},
		{element("br", "a", "\""), `<br a="&quot;">`},
		{element("script", "src", "a&b"), `<script src="a&amp;b"></script>`},
		{foreign(dom.SVG, "br"), "<br></br>"},
		{foreign(dom.Math, "hr"), "<hr></hr>"},
		{foreign(99, "img"), "<img></img>"},
		{foreign(-1, "img"), "<img></img>"},
		{foreign(dom.SVG, "foreignObject"), "<foreignObject></foreignObject>"},
		{foreign(dom.SVG, "template"), "<template></template>"},
		{text("a"), "a"},
		{text(""), ""},
		{text("<a>&\"'\u00a0"), "&lt;a&gt;&amp;\"'&nbsp;"},
		{text("&lt;\xff\x00\r\n"), "&amp;lt;\xff\x00\r\n"},
		{note("c"), "<!--c-->"},
		{note(""), "<!---->"},
		{note("<a>&\"\u00a0"), "<!--<a>&\"\u00a0-->"},
		{note("-->"), "<!---->-->"},
		{dom.Node{Kind: dom.Doctype, Name: "html"}, "<!DOCTYPE html>"},
		{dom.Node{Kind: dom.Doctype, Name: ""}, "<!DOCTYPE >"},
		{dom.Node{Kind: dom.Doctype, Name: "<&\""}, "<!DOCTYPE <&\">"},
		{dom.Node{Kind: dom.Doctype, Name: "HTML", Public: "p", System: "s", Data: "d"}, "<!DOCTYPE HTML>"},
		// What a kind doesn't have isn't written.
		{dom.Node{Kind: dom.Element, Name: "p", Data: "d", Public: "p", System: "s"}, "<p></p>"},
		{dom.Node{Kind: dom.Text, Name: "p", Data: "d", Attrs: element("", "a", "b").Attrs}, "d"},
		{dom.Node{Kind: dom.Comment, Name: "p", Data: "d", Attrs: element("", "a", "b").Attrs}, "<!--d-->"},
		{dom.Node{Name: "p", Data: "d"}, ""},
		{dom.Node{Kind: 9, Name: "p", Data: "d"}, ""},
	} {
		d := dom.New()
		n := put(t, d, dom.Root, c.node)
		expect(t, d, dom.Root, c.want)
		expect(t, d, n, "")
	}
}

func TestEveryElement(t *testing.T) {
	for _, name := range strings.Fields(voids) {
		d := dom.New()
		n := put(t, d, dom.Root, element(name))
		put(t, d, n, text("x"))
		put(t, d, n, element("p"))
		expect(t, d, dom.Root, "<"+name+">")
		expect(t, d, n, "")
		for _, space := range []int{dom.SVG, dom.Math} {
			d.Nodes[n].Space = space
			expect(t, d, dom.Root, "<"+name+">x<p></p></"+name+">")
			expect(t, d, n, "x<p></p>")
		}
	}
	for _, name := range strings.Fields(raws + " title textarea noscript pre listing p") {
		said := "a<b>&amp;\u00a0\""
		d := dom.New()
		n := put(t, d, dom.Root, element(name))
		put(t, d, n, text(said))
		want := said
		if !slices.Contains(strings.Fields(raws), name) {
			want = "a&lt;b&gt;&amp;amp;&nbsp;\""
		}
		expect(t, d, n, want)
		expect(t, d, dom.Root, "<"+name+">"+want+"</"+name+">")
		for _, space := range []int{dom.SVG, dom.Math} {
			d.Nodes[n].Space = space
			expect(t, d, n, "a&lt;b&gt;&amp;amp;&nbsp;\"")
		}
	}
}

func TestRawIsTheParentAlone(t *testing.T) {
	d := dom.New()
	script := put(t, d, dom.Root, element("script"))
	put(t, d, script, text("<"))
	b := put(t, d, script, element("b", "a", "<"))
	put(t, d, b, text("<"))
	style := put(t, d, b, element("style"))
	put(t, d, style, text("<"))
	put(t, d, b, text("<"))
	put(t, d, script, note("<"))
	put(t, d, script, text("&"))
	expect(t, d, b, "&lt;<style><</style>&lt;")
	expect(t, d, dom.Root, `<script><<b a="&lt;">&lt;<style><</style>&lt;</b><!--<-->&</script>`)
	expect(t, d, style, "<")
}

func TestOrder(t *testing.T) {
	d := dom.New()
	html := put(t, d, dom.Root, element("html"))
	last := put(t, d, dom.Root, note("last"))
	first := d.Add(dom.Node{Kind: dom.Doctype, Name: "html"})
	d.Put(dom.Root, first, html)
	p := put(t, d, html, element("p"))
	put(t, d, p, text("1"))
	put(t, d, put(t, d, p, element("b")), text("2"))
	put(t, d, p, text("3"))
	d.Put(html, d.Add(element("hr")), p)
	expect(t, d, dom.Root, "<!DOCTYPE html><html><hr><p>1<b>2</b>3</p></html><!--last-->")
	d.Put(p, last, d.Kids(p)[1])
	d.Out(first)
	expect(t, d, dom.Root, "<html><hr><p>1<!--last--><b>2</b>3</p></html>")
	// Nodes that stand nowhere are no part of the page, but have what is theirs.
	d.Out(p)
	expect(t, d, dom.Root, "<html><hr></html>")
	expect(t, d, p, "1<!--last--><b>2</b>3")
}

func TestTemplate(t *testing.T) {
	d := dom.New()
	out := put(t, d, dom.Root, element("template", "a", "b"))
	put(t, d, out, text("own"))
	expect(t, d, dom.Root, `<template a="b"></template>`)
	put(t, d, out+1, text("<"))
	in := put(t, d, out+1, element("template"))
	put(t, d, put(t, d, in+1, element("p")), text("deep"))
	put(t, d, put(t, d, in, element("p")), text("own"))
	put(t, d, out+1, text("c"))
	expect(t, d, in, "<p>deep</p>")
	expect(t, d, in+1, "<p>deep</p>")
	expect(t, d, out, "&lt;<template><p>deep</p></template>c")
	expect(t, d, out+1, "&lt;<template><p>deep</p></template>c")
	expect(t, d, dom.Root, `<template a="b">&lt;<template><p>deep</p></template>c</template>`)
	svg := put(t, d, dom.Root, foreign(dom.SVG, "template"))
	put(t, d, svg, text("<"))
	expect(t, d, svg, "&lt;")
}

func TestNothing(t *testing.T) {
	d := dom.New()
	expect(t, d, dom.Root, "")
	n := put(t, d, put(t, d, dom.Root, element("p")), text("a"))
	for _, none := range []int{dom.None, -2, math.MinInt, len(d.Nodes), math.MaxInt, n} {
		expect(t, d, none, "")
	}
	for _, at := range []int{dom.Root, dom.None, 1} {
		expect(t, nil, at, "")
		expect(t, &dom.Doc{}, at, "")
	}
}

func TestInnerChangesNothing(t *testing.T) {
	d := dom.New()
	p := put(t, d, dom.Root, element("p", "a", "<"))
	put(t, d, p, text("b"))
	was := fmt.Sprint(d.Nodes, d.Quirks)
	got := ser.Page(d)
	for i := range got {
		got[i] = 'x'
	}
	expect(t, d, dom.Root, `<p a="&lt;">b</p>`)
	if fmt.Sprint(d.Nodes, d.Quirks) != was {
		t.Error("the tree was changed")
	}
}

func TestDeepAndWide(t *testing.T) {
	for _, deep := range []bool{true, false} {
		d := dom.New()
		up := dom.Root
		for len(d.Nodes) < api.MaxNodes {
			n := put(t, d, up, element("b"))
			if deep {
				up = n
			}
		}
		n := api.MaxNodes - 1
		want := strings.Repeat("<b></b>", n)
		if deep {
			want = strings.Repeat("<b>", n) + strings.Repeat("</b>", n)
		}
		if string(ser.Page(d)) != want {
			t.Errorf("deep %v: the page is other", deep)
		}
	}
}

// Rule 1: trees that were made by hand must not bring a call down, nor let it go on for ever.
func TestTreesThatAreNone(t *testing.T) {
	for _, nodes := range [][]dom.Node{
		{{Kind: dom.Page, Kids: []int{dom.Root}}},
		{{Kind: dom.Page, Kids: []int{1}}, {Kind: dom.Element, Name: "a", Kids: []int{1, 1}}},
		{{Kind: dom.Page, Kids: []int{1, 2}}, {Kind: dom.Element, Name: "a", Kids: []int{2}}, {Kind: dom.Element, Name: "b", Kids: []int{1}}},
		{{Kind: dom.Page, Kids: []int{1}}, {Kind: dom.Element, Name: "template", Inner: 1, Kids: []int{1}}},
		{{Kind: dom.Page, Kids: []int{1}}, {Kind: dom.Element, Name: "template", Inner: math.MaxInt}},
		{{Kind: dom.Page, Kids: []int{-1, 7, math.MinInt, math.MaxInt, 1}}, {Kind: dom.Element, Name: "a", Up: 99}},
		{{Kind: dom.Text, Data: "a", Kids: []int{0}}},
		{{Kind: dom.Comment, Inner: -7, Kids: []int{0, 0}}},
	} {
		d := &dom.Doc{Nodes: nodes}
		for n := range nodes {
			ser.Inner(d, n)
		}
		ser.Page(d)
	}
}

// A node that was made by hand has the Inner 0, which is no template's.
func TestInnerOfANodeMadeByHand(t *testing.T) {
	d := &dom.Doc{Nodes: []dom.Node{
		{Kind: dom.Page, Up: dom.None, Kids: []int{1}, Inner: dom.None},
		{Kind: dom.Element, Name: "p", Kids: []int{2}},
		{Kind: dom.Text, Data: "a", Up: 1},
	}}
	expect(t, d, dom.Root, "<p>a</p>")
}
