package meta_test

import (
	"fmt"
	"strings"
	"testing"

	"woodcut/api"
	"woodcut/dom"
	"woodcut/meta"
	"woodcut/token"
	"woodcut/tree"
)

// parsed is the tree of a page that has one.
func parsed(t *testing.T, in string) *dom.Doc {
	t.Helper()
	d, err := tree.Parse([]byte(in))
	if err != api.OK {
		t.Fatalf("%.200q: error %d", in, err)
	}
	return d
}

// put is a node added, behind the kids of another one.
func put(t *testing.T, d *dom.Doc, up int, n dom.Node) int {
	t.Helper()
	at := d.Add(n)
	if err := d.Put(up, at, dom.None); err != api.OK {
		t.Fatalf("Put(%d, %d): error %d", up, at, err)
	}
	return at
}

// element is one of HTML, with attributes.
func element(name string, attrs ...string) dom.Node {
	return of(dom.HTML, name, attrs...)
}

func of(space int, name string, attrs ...string) dom.Node {
	n := dom.Node{Kind: dom.Element, Space: space, Name: name}
	for i := 0; i+1 < len(attrs); i += 2 {
		n.Attrs = append(n.Attrs, token.Attr{Name: attrs[i], Val: attrs[i+1]})
	}
	return n
}

func word(data string) dom.Node { return dom.Node{Kind: dom.Text, Data: data} }

// show is all that stands beneath a node: kids in brackets, a template's contents in braces ahead of its kids.
func show(d *dom.Doc, n int) string {
	out := ""
	for _, kid := range d.Kids(n) {
		x := d.Nodes[kid]
		out += fmt.Sprintf("%d.%s%s", kid, x.Name, x.Data)
		if x.Inner != dom.None {
			out += "{" + show(d, x.Inner) + "}"
		}
		if len(x.Kids) > 0 {
			out += "[" + show(d, kid) + "]"
		}
		out += " "
	}
	return strings.TrimSpace(out)
}

// whole tells of a tree whether each node stands just where it says that it does.
func whole(t *testing.T, d *dom.Doc) {
	t.Helper()
	stands := map[int]int{}
	for up := range d.Nodes {
		for _, kid := range d.Kids(up) {
			if _, twice := stands[kid]; twice || d.Up(kid) != up {
				t.Fatalf("node %d stands beneath %d, but says %d", kid, up, d.Up(kid))
			}
			stands[kid] = up
		}
	}
	for n := range d.Nodes {
		if _, found := stands[n]; !found && d.Up(n) != dom.None {
			t.Fatalf("node %d says that it stands beneath %d", n, d.Up(n))
		}
	}
}

// fills is the fills beneath a node, in short.
func fills(t *testing.T, d *dom.Doc, root int) string {
	t.Helper()
	found := meta.Fills(d, root)
	if found == nil {
		t.Fatal("no table")
	}
	var out []string
	for name, n := range found.All() {
		out = append(out, fmt.Sprintf("%s=%d", name, n))
	}
	return strings.Join(out, " ")
}

// ring is a tree whose nodes were laid into a ring by hand: it has no end.
func ring(t *testing.T, name string) (*dom.Doc, int, int) {
	t.Helper()
	d := dom.New()
	top := put(t, d, dom.Root, element(name, "slot", "1", "src", "2"))
	last := put(t, d, top, element(name, "slot", "3", "name", "4"))
	d.Nodes[last].Kids = []int{top, 99, -7, last}
	return d, top, last
}
