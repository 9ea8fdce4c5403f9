package find_test

import (
	"strings"
	"testing"

	"woodcut/api"
	"woodcut/dom"
	"woodcut/find"
	"woodcut/path"
	"woodcut/token"
	"woodcut/tree"
)

// parsed is the tree of a page that has one.
func parsed(t *testing.T, in string) *dom.Doc {
	t.Helper()
	d, err := tree.Parse([]byte(in))
	if err != api.OK {
		t.Fatalf("%.200q: error %d", in, err)
	}
	return d
}

// put is a node added, behind the kids of another one.
func put(t *testing.T, d *dom.Doc, up int, n dom.Node) int {
	t.Helper()
	at := d.Add(n)
	if err := d.Put(up, at, dom.None); err != api.OK {
		t.Fatalf("Put(%d, %d): error %d", up, at, err)
	}
	return at
}

// element is one of HTML, with attributes.
func element(name string, attrs ...string) dom.Node {
	return of(dom.HTML, name, attrs...)
}

func of(space int, name string, attrs ...string) dom.Node {
	n := dom.Node{Kind: dom.Element, Space: space, Name: name}
	for i := 0; i+1 < len(attrs); i += 2 {
		n.Attrs = append(n.Attrs, token.Attr{Name: attrs[i], Val: attrs[i+1]})
	}
	return n
}

// links is a tree's links in short: the element's name, the attribute, and its value.
func links(d *dom.Doc) string {
	var out []string
	for l := range find.Links(d) {
		out = append(out, d.Name(l.Node)+" "+l.Attr+"="+l.Val)
	}
	return strings.Join(out, "|")
}

// anchors is a tree's anchors in short.
func anchors(t *testing.T, d *dom.Doc) string {
	t.Helper()
	found := find.Anchors(d)
	if found == nil {
		t.Fatal("no table")
	}
	for name, is := range found.All() {
		if !is {
			t.Errorf("%q isn't mapped to true", name)
		}
	}
	return strings.Join(path.Keys(found), "|")
}

// metas is what the meta elements beneath a node say, in short.
func metas(t *testing.T, d *dom.Doc, root int) string {
	t.Helper()
	said := find.Metas(d, root)
	if said == nil {
		t.Fatal("no table")
	}
	var out []string
	for name, content := range said.All() {
		out = append(out, name+"="+content)
	}
	return strings.Join(out, "|")
}

// ring is a tree whose nodes were laid into a ring by hand: it has no end.
func ring(t *testing.T) *dom.Doc {
	t.Helper()
	d := dom.New()
	top := put(t, d, dom.Root, element("a", "id", "1", "href", "2"))
	last := put(t, d, top, element("meta", "name", "3", "content", "4"))
	d.Nodes[last].Kids = []int{top, 99, -7}
	return d
}
