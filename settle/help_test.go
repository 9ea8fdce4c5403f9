package settle_test

import (
	"bytes"
	"math/rand"
	"strings"
	"testing"

	"woodcut/api"
	"woodcut/dom"
	"woodcut/ser"
	"woodcut/settle"
	"woodcut/token"
	"woodcut/tree"
)

// today is the doctype that a stable page has.
const today = "<!doctype html>"

// parsed is the tree of a page that has one.
func parsed(t *testing.T, in string) *dom.Doc {
	t.Helper()
	d, err := tree.Parse([]byte(in))
	if err != api.OK {
		t.Fatalf("%.200q: error %d", in, err)
	}
	return d
}

// settled holds Stable of a page against what is wanted, and if it is stable, the page against itself, written and parsed.
func settled(t *testing.T, in string, want bool) {
	t.Helper()
	d := parsed(t, in)
	if got := settle.Stable(d); got != want {
		t.Errorf("%.200q: Stable is %v", in, got)
	}
	if want {
		comesBack(t, d)
	}
}

// comesBack tells of a tree that, written and parsed, is another one, or is then written otherwise.
func comesBack(t *testing.T, d *dom.Doc) {
	t.Helper()
	out := ser.Page(d)
	again := parsed(t, string(out))
	if !dom.Same(d, dom.Root, again, dom.Root) || again.Quirks != d.Quirks {
		t.Errorf("%.300q is another tree once it is parsed", out)
	}
	if got := ser.Page(again); !bytes.Equal(got, out) {
		t.Errorf("%.300q is written as %.300q", out, got)
	}
}

// each tells Stable of pages with NAME in them, for all names.
func each(t *testing.T, names, in string, want bool) {
	t.Helper()
	for _, name := range strings.Fields(names) {
		settled(t, strings.ReplaceAll(in, "NAME", name), want)
	}
}

// hand is a tree laid by hand, stable as long as nothing else is done to it.
type hand struct {
	*dom.Doc
	doctype, html, head, body int
}

func newHand() hand {
	h := hand{Doc: dom.New()}
	h.doctype = h.put(dom.Root, dom.Node{Kind: dom.Doctype, Name: "html"})
	h.html = h.put(dom.Root, element("html"))
	h.head = h.put(h.html, element("head"))
	h.body = h.put(h.html, element("body"))
	return h
}

// put is a node added, behind the kids of another one.
func (h hand) put(up int, n dom.Node) int {
	at := h.Add(n)
	if err := h.Put(up, at, dom.None); err != api.OK {
		panic(err)
	}
	return at
}

// nest is elements, each within the one ahead of it, and the innermost.
func (h hand) nest(up int, names string) int {
	for _, name := range strings.Fields(names) {
		up = h.put(up, element(name))
	}
	return up
}

// element, text and note are nodes of their kinds.
func element(name string, attrs ...string) dom.Node {
	n := dom.Node{Kind: dom.Element, Name: name}
	for i := 0; i+1 < len(attrs); i += 2 {
		n.Attrs = append(n.Attrs, token.Attr{Name: attrs[i], Val: attrs[i+1]})
	}
	return n
}

func text(s string) dom.Node { return dom.Node{Kind: dom.Text, Data: s} }

func note(s string) dom.Node { return dom.Node{Kind: dom.Comment, Data: s} }

// round is a page, once parsed and written.
func round(t *testing.T, b []byte) []byte {
	t.Helper()
	return ser.Page(parsed(t, string(b)))
}

func newRandom(seed int64) *rand.Rand { return rand.New(rand.NewSource(seed)) }
