package tree_test

import (
	"bytes"
	"strconv"
	"strings"
	"testing"

	"woodcut/api"
	"woodcut/dom"
	"woodcut/tree"
)

// P12.1, and the errors of P12.11

// fails asks for an error of Parse, and of Part.
func fails(t *testing.T, in string, page, part api.Errno) {
	t.Helper()
	d, err := tree.Parse([]byte(in))
	if err != page || (d == nil) != (err != api.OK) {
		t.Errorf("Parse of %d bytes, %.40q: error %d, want %d; a tree: %v", len(in), in, err, page, d != nil)
	}
	d, n, err := tree.Part([]byte(in), "div")
	if err != part || (d == nil) != (err != api.OK) || err != api.OK && n != 0 {
		t.Errorf("Part of %d bytes, %.40q: error %d, want %d; a tree: %v, node %d", len(in), in, err, part, d != nil, n)
	}
}

func TestLong(t *testing.T) {
	fails(t, strings.Repeat("x", api.MaxBytes), api.OK, api.OK)
	fails(t, strings.Repeat("x", api.MaxBytes+1), api.ErrLong, api.ErrLong)
	fails(t, strings.Repeat("<p>", api.MaxBytes), api.ErrLong, api.ErrLong)
	fails(t, strings.Repeat("é", api.MaxBytes/2), api.OK, api.OK)
	fails(t, strings.Repeat("é", api.MaxBytes/2)+"x", api.ErrLong, api.ErrLong)
}

// Nodes of a page without anything: the page, html, head, body; of a fragment: the page, html.
const (
	pageNodes = 4
	partNodes = 2
)

func TestNodes(t *testing.T) {
	paragraphs := func(left int) string { return strings.Repeat("<p>", api.MaxNodes-pageNodes-left) }
	many := api.ErrNodes
	for _, c := range []struct {
		in   string
		want api.Errno
	}{
		{paragraphs(0), api.OK},
		{paragraphs(-1), many},
		{paragraphs(0) + "x", many},
		{paragraphs(1) + "x", api.OK},
		{paragraphs(1) + "x</>y", api.OK},
		{paragraphs(1) + "x<!---->", many},
		{paragraphs(0) + "<!---->", many},
		{paragraphs(1) + "<!---->", api.OK},
		{paragraphs(1) + "<template>", many},
		{paragraphs(2) + "<template>", api.OK},
		{paragraphs(0) + "<br>", many},
		{paragraphs(0) + "<title>", many},
		{paragraphs(0) + "<svg>", many},
		{paragraphs(1) + "<svg>", api.OK},
		{paragraphs(1) + "<svg><g>", many},
		{paragraphs(0) + "<table>", many},
		{paragraphs(1) + "<table><td>", many},
		{paragraphs(2) + "<table><td>", many},
		{paragraphs(3) + "<table><td>", many},
		{paragraphs(4) + "<table><td>", api.OK},
		{paragraphs(1) + "<table><col>", many},
		{paragraphs(2) + "<table><!---->x", many},
		{paragraphs(0) + "</div></p></p>", many},
		{paragraphs(2) + "<b></p>x", many},
		{paragraphs(3) + "<b></p>x", api.OK},
		{paragraphs(2) + "</p><b><p></b>", many},
		{paragraphs(3) + "</p><b><p></b>", api.OK},
		{paragraphs(3) + "</p><b><i><p></b>", many},
		{paragraphs(4) + "</p><b><i><p></b>", many},
		{paragraphs(5) + "</p><b><i><p></b>", api.OK},
	} {
		if _, err := tree.Parse([]byte(c.in)); err != c.want {
			t.Errorf("%d nodes and %.60q: error %d, want %d", strings.Count(c.in, "<p>"), strings.TrimLeft(c.in, "<p>"), err, c.want)
		}
	}
}

func TestNodesOfParts(t *testing.T) {
	paragraphs := strings.Repeat("<p>", api.MaxNodes-partNodes)
	fails(t, paragraphs, api.ErrNodes, api.OK)
	fails(t, paragraphs+"<p>", api.ErrNodes, api.ErrNodes)
}

// openedOf is markup within so many elements, each within the one before, none of which is closed.
func openedOf(n int, in string) string {
	return strings.Repeat("<div>", n) + in
}

func TestDeep(t *testing.T) {
	const most = api.MaxDepth - 2 // within html and body
	fails(t, openedOf(most, ""), api.OK, api.OK)
	fails(t, openedOf(most+1, ""), api.ErrDeep, api.OK)
	fails(t, openedOf(most+2, ""), api.ErrDeep, api.ErrDeep)
	fails(t, openedOf(most+1, strings.Repeat("</div>", most+1)), api.ErrDeep, api.OK)
	for _, c := range []struct {
		in        string
		last, one api.Errno
	}{
		{"x<!--c-->x", api.OK, api.OK},
		{"<p><p><p></p>", api.OK, api.ErrDeep},
		{"</p>", api.OK, api.ErrDeep},
		{"<br>", api.OK, api.ErrDeep},
		{"<hr>", api.OK, api.ErrDeep},
		{"<input>", api.OK, api.ErrDeep},
		{"<title>a</title>", api.OK, api.ErrDeep},
		{"<textarea>", api.OK, api.ErrDeep},
		{"<template></template>", api.OK, api.ErrDeep},
		{"<svg/>", api.OK, api.ErrDeep},
		{"<svg></svg>", api.OK, api.ErrDeep},
		{"<math><mi/>", api.ErrDeep, api.ErrDeep},
		{"<table></table>", api.OK, api.ErrDeep},
		{"<table><tr>", api.ErrDeep, api.ErrDeep},
		{"<select><option>", api.ErrDeep, api.ErrDeep},
		{"<b></b><i></i>", api.OK, api.ErrDeep},
		{"<b><i>", api.ErrDeep, api.ErrDeep},
	} {
		for left, want := range []api.Errno{c.one, c.last} {
			if _, err := tree.Parse([]byte(openedOf(most-left, c.in))); err != want {
				t.Errorf("%q with %d elements left: error %d, want %d", c.in, left, err, want)
			}
		}
	}
}

func TestDeepByFormatting(t *testing.T) {
	in := "<p>"
	for i := range api.MaxDepth - 3 {
		in += "<b id=" + strconv.Itoa(i) + ">"
	}
	if _, err := tree.Parse([]byte(in + "</p><p>")); err != api.OK {
		t.Errorf("error %d", err)
	}
	// What is opened again for the text takes as many elements as before, but within one more.
	if _, err := tree.Parse([]byte(in + "</p><p>x")); err != api.OK {
		t.Errorf("error %d", err)
	}
	if _, err := tree.Parse([]byte(in + "</p><p><q>")); err != api.ErrDeep {
		t.Errorf("error %d", err)
	}
	if _, err := tree.Parse([]byte(in + "</p><div><p>x")); err != api.ErrDeep {
		t.Errorf("error %d", err)
	}
}

func TestManyWithinEachOtherOneByOne(t *testing.T) {
	// What counts is what is open at once, not how many there were, nor how deep the tree is.
	fails(t, strings.Repeat("<div></div>", 3*api.MaxDepth), api.OK, api.OK)
	fails(t, strings.Repeat("<p>", 3*api.MaxDepth), api.OK, api.OK)
	fails(t, strings.Repeat("<b><i>x</b>y</i>", 3*api.MaxDepth), api.OK, api.OK)
}

func TestTwoErrors(t *testing.T) {
	const divs = api.MaxDepth - 2
	full := strings.Repeat("<p>", api.MaxNodes-pageNodes-divs) + strings.Repeat("<div>", divs)
	if _, err := tree.Parse([]byte(full)); err != api.OK {
		t.Errorf("all nodes, and all that may be open: error %d", err)
	}
	// The element that is one too many to be a node would be one too many to be open.
	if _, err := tree.Parse([]byte(full + "<div>")); err != api.ErrNodes {
		t.Errorf("error %d", err)
	}
	if _, _, err := tree.Part(make([]byte, api.MaxBytes+1), ""); err != api.ErrLong {
		t.Errorf("too long, and no context: error %d", err)
	}
	if _, _, err := tree.Part([]byte(openedOf(300, "")), "A"); err != api.ErrArg {
		t.Errorf("too deep, and no context: error %d", err)
	}
}

func TestContextsThatAreNone(t *testing.T) {
	for context, want := range map[string]api.Errno{
		"":                                 api.ErrArg,
		"A":                                api.ErrArg,
		"Z":                                api.ErrArg,
		"diV":                              api.ErrArg,
		"Div":                              api.ErrArg,
		"d\u00c9v":                         api.OK,
		"@[`{":                             api.OK,
		"\xff":                             api.OK,
		"no such element":                  api.OK,
		strings.Repeat("a", api.MaxName):   api.OK,
		strings.Repeat("a", api.MaxName+1): api.ErrArg,
		strings.Repeat("é", api.MaxName/2): api.OK,
		strings.Repeat("é", api.MaxName/2) + "a": api.ErrArg,
	} {
		d, n, err := tree.Part([]byte("a<p>b"), context)
		if err != want || (d == nil) != (err != api.OK) {
			t.Errorf("%q: error %d, want %d", context, err, want)
		}
		if err != api.OK && n != 0 || err == api.OK && told(d, n) != "'a' p('b')" {
			t.Errorf("%q: node %d", context, n)
		}
	}
}

func TestInputStays(t *testing.T) {
	in := []byte("<!doctype html><p a=b>c<b>d</p>e<!--f-->&amp;\r\n\x00<template>g")
	was := bytes.Clone(in)
	d, _ := tree.Parse(in)
	e, n, _ := tree.Part(in, "div")
	if !bytes.Equal(in, was) {
		t.Error("the input is changed")
	}
	page, part := told(d, dom.Root), told(e, n)
	for i := range in {
		in[i] = 'x'
	}
	if told(d, dom.Root) != page || told(e, n) != part {
		t.Error("the input is kept")
	}
}

func TestTreesAreApart(t *testing.T) {
	in := []byte("<!doctype html><html a=b><p c=d>x<b e=f>y</p>z")
	d, _ := tree.Parse(in)
	e, _ := tree.Parse(in)
	was := told(e, dom.Root)
	if !dom.Same(d, dom.Root, e, dom.Root) || d.Quirks || e.Quirks {
		t.Error("two trees of one page differ")
	}
	for n := range d.Nodes {
		for i := range d.Nodes[n].Attrs {
			d.Nodes[n].Attrs[i].Val = "changed"
		}
		for i := range d.Nodes[n].Kids {
			d.Nodes[n].Kids[i] = 0
		}
	}
	if told(e, dom.Root) != was {
		t.Error("two trees share memory")
	}
}

func TestElementsOfOneTagAreApart(t *testing.T) {
	d := parsed(t, "<p><b a=1>x</p><p>y</p>z")
	count := 0
	for n := range d.Find(dom.Root, "b") {
		count++
		if d.Nodes[n].Attrs[0].Val != "1" {
			t.Error("elements of one tag share attributes")
		}
		d.Nodes[n].Attrs[0].Val = "changed"
	}
	if count != 3 {
		t.Errorf("%d elements", count)
	}
}

func TestNothing(t *testing.T) {
	for _, in := range [][]byte{nil, {}} {
		d, err := tree.Parse(in)
		if err != api.OK || told(d, dom.Root) != "html(head body)" || !d.Quirks {
			t.Errorf("error %d", err)
		}
		d, n, err := tree.Part(in, "p")
		if err != api.OK || told(d, n) != "" || told(d, dom.Root) != "html" || d.Quirks {
			t.Errorf("error %d", err)
		}
	}
}

// Texts come from the lexer in parts, which must not show.
func TestPartsOfTexts(t *testing.T) {
	cases{
		{"a</>b</> c", "'ab c'"},
		{"<pre></>\na", "pre('a')"},
		{"<pre>\n</>\na", "pre('\na')"},
		{"<pre>a</>\nb", "pre('a\nb')"},
		{"<table> </>a</> </table>", "' a ' table"},
		{"<table> </> </table>", "table('  ')"},
		{"<template><col> </>a</> ", "template(col ' ')"},
		{"<template><col>a</> ", "template(col)"},
		{"<template><col>a b", "template(col)"},
		{"<template><col>a<!--c--> b", "template(col !c ' ')"},
		{"<p><b></p>\x00</>\x00<p>", "p(b) p"},
		{"<svg>a</><![CDATA[b]]></>c", "svg:svg('abc')"},
	}.check(t, body)
	cases{
		{" </> a</> b", "html(head body('a b'))"},
		{"<html> </> <head> </> a</> ", "html(head('  ') body('a '))"},
		{"<head></head> </> a</> ", "html(head '  ' body('a '))"},
		{"<body>x</body> </> a", "html(head body('x  a'))"},
	}.check(t, page)
	cases{{"a b", ""}, {" </> a</> b", "'  '"}, {" a<col> b", "' ' col ' '"}}.check(t, within("colgroup"))
}
