package find_test

import (
	"slices"
	"testing"

	"woodcut/dom"
	"woodcut/find"
)

// P14.1

func TestExample(t *testing.T) {
	d := parsed(t, "<a name=x href=y>")
	if got := links(d); got != "a href=y" {
		t.Errorf("the links are %s", got)
	}
	if got := anchors(t, d); got != "x" {
		t.Errorf("the anchors are %s", got)
	}
}

func TestLinks(t *testing.T) {
	for in, want := range map[string]string{
		"":                               "",
		"<p>a":                           "",
		"<a>b":                           "",
		"<a href=b>c</a>":                "a href=b",
		"<A HREF=b>c</A>":                "a href=b",
		"<a href>b</a>":                  "a href=",
		"<a href=''>b</a>":               "a href=",
		"<a href=' b '>c</a>":            "a href= b ",
		"<a href='&amp;&lt;é'>b</a>":     "a href=&<é",
		"<img src=a><p href=b><x src=c>": "img src=a|p href=b|x src=c",
		"<p src=a href=b>":               "p src=a|p href=b",
		"<p href=b id=c src=a>":          "p href=b|p src=a",
		"<a href=1 href=2>":              "a href=1",
		"<a name=b id=c title=href action=d data-src=e srcset=f hrefs=g hre=h xlink:href=i>": "",
		"<link href=a><script src=b></script><title href=c>d</title><body src=e>":            "link href=a|script src=b|title href=c|body src=e",
		"<html href=a><head src=b>":                  "html href=a|head src=b",
		"<div href=1><p href=2></p></div><p href=3>": "div href=1|p href=2|p href=3",
		"<p><template href=1><a href=2></a><template><img src=3></template></template><a href=4>":   "template href=1|a href=2|img src=3|a href=4",
		"<a href=1><svg href=2><a href=3></a><image src=4/><title><b href=5></b></title></svg></a>": "a href=1|b href=5",
		"<math href=1><mi href=2><a href=3></a></mi></math>":                                        "a href=3",
		"<!--<a href=b>--><title><a href=c></title><style><a href=d></style>":                       "",
		"<table><a href=1><tr><td><a href=2></table><a href=3>":                                     "a href=1|a href=2|a href=3",
		"<b href=1><p>2</b>3": "b href=1|b href=1",
	} {
		if got := links(parsed(t, in)); got != want {
			t.Errorf("%q: the links are %s, want %s", in, got, want)
		}
	}
}

func TestLinksTellNodes(t *testing.T) {
	d := dom.New()
	p := put(t, d, dom.Root, element("p", "x", "1", "src", "2", "href", "3", "src", "4"))
	b := put(t, d, p, element("b", "href", "5"))
	put(t, d, p, of(dom.SVG, "a", "href", "6"))
	put(t, d, p, of(dom.Math, "a", "href", "7"))
	put(t, d, p, element("i", "HREF", "8", "Src", "9"))
	none := put(t, d, dom.Root, element("", "href", "10"))
	d.Add(element("a", "href", "11"))
	odd := element("", "href", "12")
	odd.Kind = dom.Text
	put(t, d, p, odd)
	odd.Kind = dom.Comment
	odd.Name = "a"
	put(t, d, p, odd)
	want := []find.Link{{p, "src", "2"}, {p, "href", "3"}, {p, "src", "4"}, {b, "href", "5"}, {none, "href", "10"}}
	all := find.Links(d)
	for range 2 {
		if got := slices.Collect(all); !slices.Equal(got, want) {
			t.Errorf("the links are %v, want %v", got, want)
		}
	}
}

func TestLinksLeftEarly(t *testing.T) {
	d := parsed(t, "<p src=1 href=2><b href=3><template><i src=4></template><u src=5>")
	all := find.Links(d)
	for stop, want := range []string{"1", "12", "123", "1234", "12345", "12345"} {
		got := ""
		for l := range all {
			got += l.Val
			if len(got) > stop {
				break
			}
		}
		if got != want {
			t.Errorf("left at the link %d: %s", stop, got)
		}
	}
}

// What a loop needs is looked up when it runs.
func TestLinksOfAGrownTree(t *testing.T) {
	d := dom.New()
	all := find.Links(d)
	put(t, d, dom.Root, element("a", "href", "1"))
	if got := len(slices.Collect(all)); got != 1 {
		t.Errorf("%d links", got)
	}
}

func TestAnchors(t *testing.T) {
	for in, want := range map[string]string{
		"":                                    "",
		"<p>a":                                "",
		"<p id=a>":                            "a",
		"<p id=''><a id name=''>":             "",
		"<p id=' '>":                          " ",
		"<p id=' a b '>":                      " a b ",
		"<p ID=A>":                            "A",
		"<p id=b><p id=a><p id=B><p id=b>":    "B|a|b",
		"<p id=a id=b>":                       "a",
		"<a name=a name=b>":                   "a",
		"<a id=b name=a>":                     "a|b",
		"<a id=a name=a>":                     "a",
		"<a name=a>1</a><a name=a>2":          "a",
		"<p name=a><img name=b><map name=c>":  "",
		"<html id=1><head id=2><body id=3>":   "1|2|3",
		"<meta name=a content=b id=c>":        "c",
		"<svg id=a><a id=b name=c></a></svg>": "a|b",
		"<svg><title><a name=b></a></title>":  "b",
		"<math id=a><mi id=b><a id=c name=d>": "a|b|c|d",
		"<template id=a><p id=b><a name=c></a><template><a id=d></template></template>": "a|b|c|d",
		"<!--<p id=a>--><title><p id=b></title>":                                        "",
		"<p id='é&amp;&#0;'>":                                                           "é&\ufffd",
		"<a href=a class=b ids=c>":                                                      "",
		"<b id=a>1<p>2</b>3":                                                            "a",
	} {
		if got := anchors(t, parsed(t, in)); got != want {
			t.Errorf("%q: the anchors are %s, want %s", in, got, want)
		}
	}
}

// Only the first attribute of a name counts, even if it's empty.
func TestAnchorsByHand(t *testing.T) {
	d := dom.New()
	p := put(t, d, dom.Root, element("p", "id", "", "id", "1"))
	put(t, d, p, element("a", "name", "", "name", "2"))
	put(t, d, p, element("a", "name", "3", "name", "4", "id", "5", "id", "6"))
	put(t, d, p, element("A", "name", "7"))
	put(t, d, p, of(dom.SVG, "a", "name", "8", "id", "9"))
	put(t, d, p, element("i", "ID", "10"))
	d.Add(element("a", "id", "11", "name", "12"))
	odd := element("a", "id", "13", "name", "14")
	odd.Kind = dom.Text
	put(t, d, p, odd)
	if got := anchors(t, d); got != "3|5|9" {
		t.Errorf("the anchors are %s", got)
	}
}

// Each table is its caller's own.
func TestAnchorsShareNothing(t *testing.T) {
	d := parsed(t, "<p id=a>")
	find.Anchors(d).Put("b", true)
	if got := anchors(t, d); got != "a" {
		t.Errorf("the anchors are %s", got)
	}
}

func TestNoTree(t *testing.T) {
	for what, d := range map[string]*dom.Doc{"no tree": nil, "no nodes": {}, "a page alone": dom.New()} {
		if got := links(d) + anchors(t, d) + metas(t, d, dom.Root); got != "" {
			t.Errorf("%s: %s", what, got)
		}
		if s, ok := find.Title(d); s != "" || ok {
			t.Errorf("%s: the title is %q, %v", what, s, ok)
		}
		if n := find.First(d, dom.Root, "p"); n != dom.None {
			t.Errorf("%s: First is %d", what, n)
		}
	}
}

// All ends on a ring, too.
func TestRing(t *testing.T) {
	d := ring(t)
	if got := anchors(t, d); got != "1" {
		t.Errorf("the anchors are %s", got)
	}
	if got := metas(t, d, dom.Root); got != "3=4" {
		t.Errorf("the metas are %s", got)
	}
	if got := len(slices.Collect(find.Links(d))); got == 0 {
		t.Error("no links")
	}
	find.Title(d)
	if n := find.First(d, dom.Root, "p"); n != dom.None {
		t.Errorf("First is %d", n)
	}
}
