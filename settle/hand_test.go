package settle_test

import (
	"strings"
	"testing"

	"woodcut/dom"
	"woodcut/settle"
	"woodcut/token"
)

// P13.1, of trees that no page has

// stable holds Stable of a tree laid by hand against what is wanted.
func (h hand) stable(t *testing.T, what string, want bool) {
	t.Helper()
	if got := settle.Stable(h.Doc); got != want {
		t.Errorf("%s: Stable is %v", what, got)
	}
}

func TestByHand(t *testing.T) {
	h := newHand()
	h.stable(t, "head and body", true)
	comesBack(t, h.Doc)
	h.Quirks = true
	h.stable(t, "Quirks", false)
	settledNot(t, "no tree", nil)
	settledNot(t, "the page alone", dom.New())
	settledNot(t, "no nodes", &dom.Doc{})
	settledNot(t, "an empty node", &dom.Doc{Nodes: make([]dom.Node, 1)})
}

func settledNot(t *testing.T, what string, d *dom.Doc) {
	t.Helper()
	if settle.Stable(d) {
		t.Errorf("%s is stable", what)
	}
}

func TestTopsByHand(t *testing.T) {
	for what, change := range map[string]func(h hand){
		"no doctype":          func(h hand) { h.Out(h.doctype) },
		"no html":             func(h hand) { h.Out(h.html) },
		"no head":             func(h hand) { h.Out(h.head) },
		"no body":             func(h hand) { h.Out(h.body) },
		"html ahead":          func(h hand) { h.Put(dom.Root, h.html, h.doctype) },
		"body ahead":          func(h hand) { h.Put(h.html, h.body, h.head) },
		"two doctypes":        func(h hand) { h.put(dom.Root, dom.Node{Kind: dom.Doctype, Name: "html"}) },
		"two htmls":           func(h hand) { h.nest(dom.Root, "html") },
		"two heads":           func(h hand) { h.nest(h.html, "head") },
		"two bodies":          func(h hand) { h.nest(h.html, "body") },
		"a comment behind":    func(h hand) { h.put(dom.Root, note("a")) },
		"a text behind":       func(h hand) { h.put(h.html, text(" ")) },
		"a doctype of XML":    func(h hand) { h.Nodes[h.doctype].Name = "xml" },
		"a doctype of HTML":   func(h hand) { h.Nodes[h.doctype].Name = "HTML" },
		"a public identifier": func(h hand) { h.Nodes[h.doctype].Public = "a" },
		"a system identifier": func(h hand) { h.Nodes[h.doctype].System = "a" },
		"a comment as one":    func(h hand) { h.Nodes[h.doctype].Kind = dom.Comment },
		"html of SVG":         func(h hand) { h.Nodes[h.html].Space = dom.SVG },
		"head of SVG":         func(h hand) { h.Nodes[h.head].Space = dom.SVG },
		"body of Math":        func(h hand) { h.Nodes[h.body].Space = dom.Math },
		"html as a text":      func(h hand) { h.Nodes[h.html].Kind = dom.Text },
		"a doctype within":    func(h hand) { h.put(h.body, dom.Node{Kind: dom.Doctype, Name: "html"}) },
		"a page within":       func(h hand) { h.Nodes[h.put(h.body, text("a"))].Kind = dom.Page },
		"no node within":      func(h hand) { h.Nodes[h.body].Kids = []int{99} },
		"a node below 0":      func(h hand) { h.Nodes[h.head].Kids = []int{-5} },
		"no node as first":    func(h hand) { h.Nodes[h.nest(h.body, "pre")].Kids = []int{99} },
		"an element of none":  func(h hand) { h.put(h.body, dom.Node{Kind: dom.Element}) },
		"a space of none":     func(h hand) { h.put(h.body, dom.Node{Kind: dom.Element, Space: 7, Name: "p"}) },
	} {
		h := newHand()
		change(h)
		h.stable(t, what, false)
	}
}

// What stands nowhere doesn't count.
func TestDetachedByHand(t *testing.T) {
	h := newHand()
	h.Add(element("form"))
	h.Add(element("template"))
	h.Add(text(""))
	h.stable(t, "a form that stands nowhere", true)
}

func TestKindsByHand(t *testing.T) {
	for _, c := range []struct {
		within string
		node   dom.Node
		want   bool
	}{
		{"body", text("a"), true},
		{"body", text(""), false},
		{"body", text("\x00"), false},
		{"body", text("a\r"), false},
		{"body", text("\xff"), false},
		{"body", text("\xed\xa0\x80"), false},
		{"body", text("\xc2"), false},
		{"body", text("\ufffd"), true},
		{"body", note(""), true},
		{"body", note("\x00"), false},
		{"body", note("\r\n"), false},
		{"body", note("\xc0\x80"), false},
		{"body", note("-"), false},
		{"body", note(">a"), false},
		{"body", note("a>"), true},
		{"body p", dom.Node{Kind: dom.Element, Space: dom.SVG, Name: "b"}, false},
		{"body p", dom.Node{Kind: dom.Element, Space: dom.Math, Name: "b"}, false},
		{"body p", element("B"), false},
		{"body p", element("div"), false},
		{"body p", element("p"), false},
		{"body b", element("div"), false},
		{"body h1", element("h1"), false},
		{"body br", text("a"), false},
		{"body img", note("a"), false},
		{"body wbr", element("b"), false},
		{"body hr", text("a"), false},
		{"body a", element("a"), false},
		{"body a b i", element("a"), false},
		{"body a b i", element("b"), true},
		{"body table", element("tr"), false},
		{"body table", element("td"), false},
		{"body table", element("table"), false},
		{"body table tbody", element("td"), false},
		{"body table tbody", element("tbody"), false},
		{"body table tbody", element("tr"), true},
		{"body table tbody", text("a"), false},
		{"body table tbody tr", element("tr"), false},
		{"body table tbody tr", element("th"), true},
		{"body table tbody tr td", element("td"), false},
		{"body table tbody tr td p", element("td"), false},
		{"body ol", element("dd"), false},
		{"body ol li", element("li"), false},
		{"body ul li p", element("li"), false},
		{"body dl", element("li"), false},
		{"body dl dt", element("dt"), false},
		{"body", element("head"), false},
		{"body", element("body"), false},
		{"body pre", text("\na"), false},
		{"body pre", note("\na"), false},
		{"body pre", text("a\n"), true},
		{"body pre b", text("\na"), true},
		{"head", text(" \n"), true},
		{"head", text(""), false},
		{"head", text("\r"), false},
		{"head", text(" a"), false},
		{"head", text("\u00a0"), false},
		{"head", note("a"), true},
		{"head", note("--"), false},
		{"head", element("p"), false},
		{"head", element("br"), false},
		{"head meta", text("a"), false},
		{"head link", note("a"), false},
		{"head base", element("b"), false},
		{"head title", text("a"), true},
		{"head title", text("<"), true},
		{"head title", text(""), false},
		{"head title", text("\xff"), false},
		{"head title", note("a"), false},
		{"head title", element("b"), false},
		{"head style", text("a"), true},
		{"head style", text("a<"), false},
		{"head style", text("\r"), false},
		{"head style", text(""), false},
		{"head style", note("a"), false},
		{"head title", dom.Node{Kind: dom.Doctype, Name: "html"}, false},
	} {
		h := newHand()
		up, below, _ := strings.Cut(c.within, " ")
		at := map[string]int{"head": h.head, "body": h.body}[up]
		h.put(h.nest(at, below), c.node)
		h.stable(t, c.within+": "+c.node.Name+c.node.Data, c.want)
		if c.want {
			comesBack(t, h.Doc)
		}
	}
}

func TestMoreThanOneByHand(t *testing.T) {
	h := newHand()
	title := h.nest(h.head, "title")
	h.put(title, text("a"))
	h.stable(t, "a title", true)
	h.put(title, text("b"))
	h.stable(t, "two texts in a title", false)
	h = newHand()
	pre := h.nest(h.body, "pre")
	h.put(pre, text("a"))
	h.put(pre, text("\nb"))
	// The words ask for no more, and no page's tree has two texts side by side.
	h.stable(t, "a newline that begins a second text in pre", true)
}

func TestAttributesByHand(t *testing.T) {
	for what, attrs := range map[string][]string{
		"a name twice":     {"a", "1", "b", "2", "a", "1"},
		"no name":          {"", "1"},
		"a great letter":   {"A", "1"},
		"one within":       {"aB", "1"},
		"U+0000":           {"a", "\x00"},
		"a return":         {"a", "b\r"},
		"no UTF-8":         {"a", "\xff"},
		"no UTF-8 in one":  {"a\xff", "1"},
		"a blank":          {"a b", "1"},
		"an equals sign":   {"a=", "1"},
		"the second isn't": {"a", "1", "b", "\r"},
	} {
		for name, up := range map[string]string{"p": "body", "hr": "body", "b": "body", "a": "body", "li": "body ol", "table": "body", "tr": "body table tbody", "td": "body table tbody tr", "meta": "head", "style": "head"} {
			h := newHand()
			above, below, _ := strings.Cut(up, " ")
			within := h.nest(map[string]int{"head": h.head, "body": h.body}[above], below)
			n := h.put(within, element(name, "a", "1", "b", "\n\t<>&\"é"))
			h.stable(t, name+" with plain attributes", true)
			comesBack(t, h.Doc)
			h.Nodes[n].Attrs = element(name, attrs...).Attrs
			h.stable(t, name+": "+what, false)
		}
		top := newHand()
		for _, n := range []int{top.html, top.head, top.body} {
			h := newHand()
			h.Nodes[n].Attrs = element("", attrs...).Attrs
			h.stable(t, h.Name(n)+": "+what, false)
		}
	}
}

func TestManyAttributes(t *testing.T) {
	h := newHand()
	n := h.nest(h.body, "p")
	for i := range 20000 {
		h.Nodes[n].Attrs = append(h.Nodes[n].Attrs, token.Attr{Name: "a" + strings.Repeat("b", i%100) + string(rune('a'+i/100%26)) + string(rune('a'+i/2600))})
	}
	h.stable(t, "20000 attributes", true)
	h.Nodes[n].Attrs = append(h.Nodes[n].Attrs, h.Nodes[n].Attrs[7])
	h.stable(t, "one of them twice", false)
}

// A tree whose nodes were laid into a ring has no end.
func TestRings(t *testing.T) {
	for what, names := range map[string]string{"blocks": "div div div", "runs": "b a i", "lists": "ol li div", "tables": "table tbody tr td"} {
		h := newHand()
		last := h.nest(h.body, names)
		top := h.Kids(h.body)[0]
		h.stable(t, what, true)
		h.Nodes[last].Kids = []int{top}
		h.stable(t, what+" in a ring", false)
		h.Nodes[last].Kids = []int{last, last}
		h.stable(t, what+" within themselves", false)
		h.Nodes[last].Kids = []int{h.html}
		h.stable(t, what+" around the html", false)
		h.Nodes[last].Kids = []int{dom.Root}
		h.stable(t, what+" around the page", false)
	}
	h := newHand()
	up := h.body
	for range 60 {
		kid := h.nest(up, "div")
		h.Nodes[up].Kids = []int{kid, kid}
		up = kid
	}
	h.stable(t, "a tree with two ways to each node", false)
}
