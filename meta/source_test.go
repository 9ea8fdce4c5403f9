package meta_test

import (
	"math"
	"strings"
	"testing"

	"woodcut/api"
	"woodcut/dom"
	"woodcut/meta"
)

// P16.1

// sources is a table of references in a/b/c.html and the sources that they name; none: they are wrong.
func sources() map[string]string {
	long := strings.Repeat("x", api.MaxName-len("a/b/"))
	deep := strings.Repeat("x/", 13)
	return map[string]string{
		"x":                     "a/b/x",
		"_x.html":               "a/b/_x.html",
		"../_x.html":            "a/_x.html",
		"../../_x.html":         "_x.html",
		"../../../../x":         "x",
		"/z":                    "z",
		"/a/b":                  "a/b",
		"/../z":                 "z",
		"./x":                   "a/b/x",
		"x/../y":                "a/b/y",
		"x/./y":                 "a/b/x/y",
		"c.html":                "a/b/c.html",
		" _y.html\n":            "a/b/_y.html",
		"\t\n\f\r /z \r\f\n\t":  "z",
		"%61":                   "a/b/a",
		"%2e%2E%2e":             "a/b/...",
		"x%2Fy":                 "a/b/x/y",
		"%5fx":                  "a/b/_x",
		"/%2e%2e.html":          "...html",
		"A-Z_0.9":               "a/b/A-Z_0.9",
		long:                    "a/b/" + long,
		deep + "x":              "a/b/" + deep + "x",
		"/" + deep + "x/x/x":    deep + "x/x/x",
		"%/../x":                "a/b/x",
		"./1:x":                 "",
		"":                      "",
		" ":                     "",
		"\n\t":                  "",
		"?":                     "",
		"#":                     "",
		"x?":                    "",
		"x#":                    "",
		"x?y":                   "",
		"x#y":                   "",
		"?y":                    "",
		"#y":                    "",
		"http://x":              "",
		"x:y":                   "",
		"x:":                    "",
		"//x/y":                 "",
		"//":                    "",
		"///x":                  "",
		"/":                     "",
		".":                     "",
		"./":                    "",
		"..":                    "",
		"../..":                 "",
		"../../../..":           "",
		"x/":                    "",
		"/x/":                   "",
		"x//y":                  "",
		"/.//x":                 "",
		"%2Fx":                  "",
		"x%2F":                  "",
		"/%2Fx":                 "",
		"%2e":                   "",
		"%2e%2e/x":              "",
		"/%2e%2e":               "",
		"a b":                   "",
		"a%20b":                 "",
		"\va":                   "",
		"\u00a0a":               "",
		"é":                     "",
		"%c3%a9":                "",
		"x\\y":                  "",
		"x~":                    "",
		"x+y":                   "",
		"%":                     "",
		"x%4":                   "",
		"x%zz":                  "",
		"x%00":                  "",
		"x%3Fy":                 "",
		"x%23y":                 "",
		"x%3Ay":                 "",
		long + "x":              "",
		deep + "x/x":            "",
		"/" + deep + "x/x/x/x":  "",
		strings.Repeat("/x", 9): "x" + strings.Repeat("/x", 8),
	}
}

func TestSource(t *testing.T) {
	for in, want := range sources() {
		got, err := meta.Source("a/b/c.html", in)
		if got != want || (err == api.OK) != (want != "") || want == "" && err != api.ErrForm {
			t.Errorf("%q: %q, error %d, want %q", in, got, err, want)
		}
	}
}

func TestSourceFrom(t *testing.T) {
	for _, c := range []struct{ from, in, want string }{
		{"c.html", "x", "x"},
		{"c.html", "../x", "x"},
		{"", "x", "x"},
		{"", "/x", "x"},
		{"a/", "x", "a/x"},
		{"/a/b", "x", ""},
		{"/a/b", "/x", "x"},
		{"a//b", "x", ""},
		{"a//b", "../x", "a/x"},
		{"a/../b", "x", "x"},
		{"é/b", "x", ""},
		{"é/b", "../x", "x"},
		{"%41/b", "x", "A/x"},
		{"%/b", "x", ""},
		{"a?b/c", "x", ""},
		{"x:y/z", "../a", "a"},
		{strings.Repeat("a", api.MaxName-2) + "/b", "x", strings.Repeat("a", api.MaxName-2) + "/x"},
		{strings.Repeat("a", api.MaxName-2) + "/b", "xy", ""},
	} {
		got, err := meta.Source(c.from, c.in)
		if got != c.want || (err == api.OK) != (c.want != "") || c.want == "" && err != api.ErrForm {
			t.Errorf("%q in %q: %q, error %d, want %q", c.in, c.from, got, err, c.want)
		}
	}
}

func TestLayout(t *testing.T) {
	const none = "none"
	for in, want := range map[string]string{
		"":                                          none,
		"<p>a":                                      none,
		"<meta name=layout>":                        none,
		"<meta content=_l>":                         none,
		"<meta name=lay content=_l>":                none,
		"<meta property=layout content=_l>":         none,
		"<link name=layout content=_l>":             none,
		"<body><meta name=layout content=_l>":       none,
		"<body><p><meta name=layout content=_l>":    none,
		"<title><meta name=layout content=_l>":      none,
		"<!--<meta name=layout content=_l>-->":      none,
		"<meta name=layout content=_l>":             "a/b/_l",
		"<META NAME=LAYOUT CONTENT=_L>":             "a/b/_L",
		"<meta content=' ../_l\n' name=' Layout '>": "a/_l",
		"<meta name=layout content=/_l.html><p>a":   "_l.html",
		"<head><meta name=layout content=1></head><body><meta name=layout content=2>":   "a/b/1",
		"<meta name=layout content=1><meta name=layout content=2>":                      "a/b/1",
		"<meta name=layout><meta name=layout content=2>":                                "a/b/2",
		"<template><meta name=layout content=1></template><meta name=layout content=2>": "a/b/1",
		"<meta name=layout content=''>":                                                 "",
		"<meta name=layout content>":                                                    "",
		"<meta name=layout content=' '>":                                                "",
		"<meta name=layout content='a b'>":                                              "",
		"<meta name=layout content=x?y>":                                                "",
		"<meta name=layout content=http://x>":                                           "",
		"<meta name=layout content=/>":                                                  "",
		"<meta name=layout content=%>":                                                  "",
		"<meta name=layout content=''><meta name=layout content=_l>":                    "",
	} {
		name, found, err := meta.Layout(parsed(t, in), "a/b/c.html")
		switch want {
		case none:
			if name != "" || found || err != api.OK {
				t.Errorf("%q: %q, %v, error %d, want none", in, name, found, err)
			}
		case "":
			if name != "" || found || err != api.ErrForm {
				t.Errorf("%q: %q, %v, error %d, want ErrForm", in, name, found, err)
			}
		default:
			if name != want || !found || err != api.OK {
				t.Errorf("%q: %q, %v, error %d, want %q", in, name, found, err, want)
			}
		}
	}
}

// Only the first head of HTML counts, wherever it stands.
func TestLayoutByHand(t *testing.T) {
	d := dom.New()
	put(t, d, dom.Root, element("meta", "name", "layout", "content", "0"))
	other := put(t, d, dom.Root, of(dom.SVG, "head"))
	put(t, d, other, element("meta", "name", "layout", "content", "1"))
	if name, found, err := meta.Layout(d, "a"); name != "" || found || err != api.OK {
		t.Errorf("no head: %q, %v, error %d", name, found, err)
	}
	div := put(t, d, dom.Root, element("div"))
	first := put(t, d, div, element("head"))
	second := put(t, d, dom.Root, element("head"))
	put(t, d, second, element("meta", "name", "layout", "content", "2"))
	if name, found, err := meta.Layout(d, "a"); name != "" || found || err != api.OK {
		t.Errorf("a head without one: %q, %v, error %d", name, found, err)
	}
	deep := put(t, d, first, element("p"))
	put(t, d, deep, element("meta", "name", "layout", "content", "3", "content", "4"))
	if name, found, err := meta.Layout(d, "a"); name != "3" || !found || err != api.OK {
		t.Errorf("a head with one: %q, %v, error %d", name, found, err)
	}
}

func TestInclude(t *testing.T) {
	for in, want := range sources() {
		d := dom.New()
		n := put(t, d, dom.Root, element("include", "id", "0", "src", in, "src", "other"))
		got, err := meta.Include(d, n, "a/b/c.html")
		if got != want || (err == api.OK) != (want != "") || want == "" && err != api.ErrForm {
			t.Errorf("%q: %q, error %d, want %q", in, got, err, want)
		}
	}
}

func TestIncludeOfOthers(t *testing.T) {
	d := dom.New()
	bare := put(t, d, dom.Root, element("include", "href", "x", "SRC", "y"))
	loose := d.Add(element("include", "src", "x"))
	odd := element("include", "src", "x")
	odd.Kind = dom.Text
	for n, want := range map[int]api.Errno{
		bare:  api.ErrForm,
		loose: api.OK,
		put(t, d, dom.Root, of(dom.SVG, "include", "src", "x")):  api.ErrArg,
		put(t, d, dom.Root, of(dom.Math, "include", "src", "x")): api.ErrArg,
		put(t, d, dom.Root, element("Include", "src", "x")):      api.ErrArg,
		put(t, d, dom.Root, element("img", "src", "x")):          api.ErrArg,
		put(t, d, dom.Root, odd):                                 api.ErrArg,
		dom.Root:                                                 api.ErrArg,
		dom.None:                                                 api.ErrArg,
		99:                                                       api.ErrArg,
		math.MaxInt:                                              api.ErrArg,
		math.MinInt:                                              api.ErrArg,
	} {
		got, err := meta.Include(d, n, "a/b")
		if err != want || (got == "a/x") != (err == api.OK) || err != api.OK && got != "" {
			t.Errorf("node %d: %q, error %d, want %d", n, got, err, want)
		}
	}
}

func TestIncludeOfAPage(t *testing.T) {
	d := parsed(t, "<include src=a></include><svg><include src=b></include></svg><INCLUDE SRC=' /c '></INCLUDE><include>")
	got := ""
	for n := range d.Walk(dom.Root) {
		if d.Name(n) == "include" {
			name, err := meta.Include(d, n, "q/p.html")
			got += name + string(rune('0'+err)) + " "
		}
	}
	if got != "q/a0 1 c0 2 " {
		t.Error(got)
	}
}
