package tree_test

import (
	"slices"
	"strings"
	"testing"

	"woodcut/api"
	"woodcut/dom"
	"woodcut/tree"
)

// told is what stands beneath a node, in short: names with what is within in brackets, attributes as [name=value], texts in quotes, comments behind a !, a doctype behind a ?.
func told(d *dom.Doc, n int) string {
	var parts []string
	for _, kid := range d.Kids(n) {
		parts = append(parts, toldNode(d, kid))
	}
	return strings.Join(parts, " ")
}

func toldNode(d *dom.Doc, n int) string {
	x := d.Nodes[n]
	switch x.Kind {
	case dom.Text:
		return "'" + x.Data + "'"
	case dom.Comment:
		return "!" + x.Data
	case dom.Doctype:
		return "?" + x.Name
	}
	out := []string{"", "svg:", "math:"}[x.Space] + x.Name
	for _, a := range x.Attrs {
		out += "[" + a.Name + "=" + a.Val + "]"
	}
	within := told(d, n)
	if x.Inner != dom.None {
		// What is within a template stands beneath its contents' node alone.
		within += told(d, x.Inner)
	}
	if within != "" {
		out += "(" + within + ")"
	}
	return out
}

// whole tells whether all nodes of a tree know where they stand.
func whole(t *testing.T, in string, d *dom.Doc) {
	t.Helper()
	hung := 0
	for n, x := range d.Nodes {
		for _, kid := range x.Kids {
			hung++
			if d.Up(kid) != n {
				t.Errorf("%.200q: %d is a kid of %d, but stands beneath %d", in, kid, n, d.Up(kid))
			}
		}
		if x.Inner != dom.None && (d.Kind(x.Inner) != dom.Page || d.Up(x.Inner) != dom.None || len(x.Kids) > 0 || !d.Is(n, "template")) {
			t.Errorf("%.200q: the template %d", in, n)
		}
		if x.Kind == dom.Text && x.Data == "" {
			t.Errorf("%.200q: an empty text", in)
		}
		if up := d.Up(n); up != dom.None && !slices.Contains(d.Nodes[up].Kids, n) {
			t.Errorf("%.200q: %d is no kid of %d", in, n, up)
		}
	}
	if count := len(slices.Collect(seen(d))); hung != count {
		t.Errorf("%.200q: %d nodes are kids, but %d are seen", in, hung, count)
	}
}

// seen is all nodes that can be reached from the page.
func seen(d *dom.Doc) func(func(int) bool) {
	return func(yield func(int) bool) {
		for n := range d.Walk(dom.Root) {
			if !yield(n) {
				return
			}
		}
	}
}

// parsed is the tree of a page that has one.
func parsed(t *testing.T, in string) *dom.Doc {
	t.Helper()
	d, err := tree.Parse([]byte(in))
	if err != api.OK {
		t.Fatalf("%.200q: error %d", in, err)
	}
	whole(t, in, d)
	return d
}

// page is a page's tree in short.
func page(t *testing.T, in string) string {
	t.Helper()
	return told(parsed(t, in), dom.Root)
}

// body is what the body of a page without Quirks holds, in short.
func body(t *testing.T, in string) string {
	t.Helper()
	d := parsed(t, "<!doctype html><body>"+in)
	for n := range d.Find(dom.Root, "body") {
		return told(d, n)
	}
	t.Fatalf("%q has no body", in)
	return ""
}

// part is the tree of a fragment in short.
func part(t *testing.T, in, context string) string {
	t.Helper()
	d, n, err := tree.Part([]byte(in), context)
	if err != api.OK {
		t.Fatalf("%.200q in %s: error %d", in, context, err)
	}
	whole(t, in, d)
	return told(d, n)
}

// cases is inputs, each with what is wanted of it.
type cases [][2]string

// check holds what is told of each input against what is wanted.
func (c cases) check(t *testing.T, tell func(*testing.T, string) string) {
	t.Helper()
	for _, x := range c {
		if got := tell(t, x[0]); got != x[1] {
			t.Errorf("%q:\n got %s\nwant %s", x[0], got, x[1])
		}
	}
}

// within is told of fragments of a context.
func within(context string) func(*testing.T, string) string {
	return func(t *testing.T, in string) string {
		t.Helper()
		return part(t, in, context)
	}
}

// words is a list of names.
func words(s string) []string { return strings.Fields(s) }
