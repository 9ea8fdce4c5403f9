package find_test

import (
	"math"
	"testing"

	"woodcut/dom"
	"woodcut/find"
)

// P14.2

func TestTitle(t *testing.T) {
	for in, want := range map[string]string{
		"<title>a</title>":                                      "a",
		"<title> \t\n\f a \n b \n</title>":                      "a \n b",
		"<title></title>":                                       "",
		"<title> </title>":                                      "",
		"<title> </title><title>a</title>":                      "",
		"<title>a</title><title>b</title>":                      "a",
		"<TITLE>A&amp;<b></TITLE>":                              "A&<b>",
		"<title>&nbsp;a&#13;</title>":                           "\u00a0a",
		"<body><p><title>a</title>":                             "a",
		"<template><title>a</title></template><title>b</title>": "a",
		"<svg><title>a</title></svg><title>b</title>":           "b",
		"<svg><desc><title>a</title></desc></svg>":              "a",
		"<title>a": "a",
	} {
		if got, ok := find.Title(parsed(t, in)); got != want || !ok {
			t.Errorf("%q: the title is %q, %v, want %q", in, got, ok, want)
		}
	}
	for _, in := range []string{"", "<p>a", "<p title=a>", "<svg><title>a</title></svg>", "<math><title>a</math>", "<!--<title>a</title>-->", "<textarea><title>a</title>"} {
		if got, ok := find.Title(parsed(t, in)); got != "" || ok {
			t.Errorf("%q: the title is %q, %v", in, got, ok)
		}
	}
}

// A title's words are all texts within it, however deep.
func TestTitleByHand(t *testing.T) {
	d := dom.New()
	title := put(t, d, dom.Root, element("title"))
	put(t, d, title, dom.Node{Kind: dom.Text, Data: " a"})
	b := put(t, d, title, element("b"))
	put(t, d, b, dom.Node{Kind: dom.Text, Data: "b "})
	put(t, d, title, dom.Node{Kind: dom.Comment, Data: "c"})
	put(t, d, title, dom.Node{Kind: dom.Text, Data: "d\r"})
	if got, ok := find.Title(d); got != "ab d" || !ok {
		t.Errorf("the title is %q, %v", got, ok)
	}
}

func TestFirst(t *testing.T) {
	d := dom.New()
	svg := put(t, d, dom.Root, of(dom.SVG, "p"))
	div := put(t, d, dom.Root, element("div"))
	tm := put(t, d, div, element("template"))
	in := put(t, d, tm+1, element("p"))
	own := put(t, d, tm, element("i"))
	div2 := put(t, d, div, element("div"))
	p := put(t, d, div2, element("p"))
	word := put(t, d, p, dom.Node{Kind: dom.Text, Name: "p", Data: "p"})
	last := put(t, d, dom.Root, element("p"))
	loose := d.Add(element("u"))
	for _, c := range []struct {
		n    int
		name string
		want int
	}{
		{dom.Root, "div", div},
		{dom.Root, "p", in},
		{div, "p", in},
		{tm, "p", in},
		{tm + 1, "p", in},
		{div2, "p", p},
		{div, "div", div2},
		{div2, "div", dom.None},
		{in, "p", dom.None},
		{p, "p", dom.None},
		{last, "p", dom.None},
		{word, "p", dom.None},
		{svg, "p", dom.None},
		{dom.Root, "P", dom.None},
		{dom.Root, "", dom.None},
		{dom.Root, "u", dom.None},
		{loose, "u", dom.None},
		{dom.Root, "i", dom.None}, // a template shows its contents, not its kids
		{own, "i", dom.None},
		{dom.Root, "template", tm},
		{dom.None, "p", dom.None},
		{-2, "p", dom.None},
		{len(d.Nodes), "p", dom.None},
		{math.MaxInt, "p", dom.None},
		{math.MinInt, "p", dom.None},
	} {
		if got := find.First(d, c.n, c.name); got != c.want {
			t.Errorf("First(%d, %q) is %d, want %d", c.n, c.name, got, c.want)
		}
	}
}

func TestMetas(t *testing.T) {
	for in, want := range map[string]string{
		"":                                                  "",
		"<meta>":                                            "",
		"<meta name=a>":                                     "",
		"<meta content=a>":                                  "",
		"<meta name='' content=a>":                          "",
		"<meta name=' \t\n\f' content=a>":                   "",
		"<meta name=a content=b>":                           "a=b",
		"<meta name=a content>":                             "a=",
		"<meta name=a content=' B '>":                       "a= B ",
		"<META NAME=A CONTENT=B>":                           "a=B",
		"<meta name=' \n\tA b\f' content=c>":                "a b=c",
		"<meta name=É content=a>":                           "É=a",
		"<meta name='&nbsp;a' content=b>":                   "\u00a0a=b",
		"<meta name=a content=1><meta name=a content=2>":    "a=1",
		"<meta name=A content=1><meta name=' a' content=2>": "a=1",
		"<meta name=a><meta name=a content=2><meta name=a content=3>":          "a=2",
		"<meta name=a content=''><meta name=a content=2>":                      "a=",
		"<meta name=b content=1><meta name=a content=2>":                       "a=2|b=1",
		"<meta http-equiv=a property=b content=c charset=d>":                   "",
		"<p name=a content=b><link name=a content=c>":                          "",
		"<body><p><meta name=a content=b>":                                     "a=b",
		"<template><meta name=a content=1></template><meta name=a content=2>":  "a=1",
		"<!--<meta name=a content=b>--><title><meta name=a content=b></title>": "",
	} {
		if got := metas(t, parsed(t, in), dom.Root); got != want {
			t.Errorf("%q: the metas are %s, want %s", in, got, want)
		}
	}
}

func TestMetasByHand(t *testing.T) {
	d := dom.New()
	head := put(t, d, dom.Root, element("meta", "name", "up", "content", "0"))
	put(t, d, head, of(dom.SVG, "meta", "name", "a", "content", "1"))
	put(t, d, head, of(dom.Math, "meta", "name", "a", "content", "2"))
	put(t, d, head, element("meta", "name", "a", "name", "b", "content", "3", "content", "4"))
	put(t, d, head, element("meta", "name", "", "name", "c", "content", "5"))
	put(t, d, head, element("meta", "name", "\rd\r", "content", "6"))
	deep := put(t, d, head, element("div"))
	put(t, d, deep, element("meta", "name", "e", "content", "7"))
	body := put(t, d, dom.Root, element("body"))
	put(t, d, body, element("meta", "name", "A", "content", "8"))
	tm := put(t, d, body, element("template"))
	put(t, d, tm+1, element("meta", "name", "f", "content", "9"))
	put(t, d, tm, element("meta", "name", "g", "content", "10"))
	d.Add(element("meta", "name", "h", "content", "11"))
	for n, want := range map[int]string{
		dom.Root: "a=3|d=6|e=7|f=9|up=0", head: "a=3|d=6|e=7", deep: "e=7", body: "a=8|f=9", tm: "f=9", tm + 1: "f=9",
		len(d.Nodes) - 1: "", dom.None: "", len(d.Nodes): "", math.MaxInt: "", math.MinInt: "",
	} {
		if got := metas(t, d, n); got != want {
			t.Errorf("Metas(%d) are %s, want %s", n, got, want)
		}
	}
}

func TestMetasShareNothing(t *testing.T) {
	d := parsed(t, "<meta name=a content=b>")
	find.Metas(d, dom.Root).Put("a", "c")
	if got := metas(t, d, dom.Root); got != "a=b" {
		t.Errorf("the metas are %s", got)
	}
}
