package settle_test

import (
	"math/rand"
	"strings"
	"testing"

	"woodcut/api"
	"woodcut/ser"
	"woodcut/settle"
	"woodcut/tree"
)

// P13.2: what is stable comes back

func TestRandomStableTrees(t *testing.T) {
	r := newRandom(132)
	m := newModel()
	for range 3000 {
		d := m.grown(r, 5+r.Intn(120))
		if !settle.Stable(d) {
			t.Fatalf("%q isn't stable", ser.Page(d))
		}
		comesBack(t, d)
	}
}

// randomPage is a page of tags that often don't match.
func randomPage(r *rand.Rand) string {
	vocabularies := []string{
		"a b i em code span p div li ul", "a b i p h1 h2 div br hr img pre", "table tr td th tbody thead tfoot a b i p div",
		"dl dt dd ol ul li p b a div section pre", "a b nobr font form select table tr td p template svg center",
	}
	names := strings.Fields(vocabularies[r.Intn(len(vocabularies))])
	texts := []string{"x", " ", "\n", "a b", "&amp;", "\x00", "<!--c-->", "<!doctype e>", "&#13;", "é&nbsp;", "\n\n", "\r\n", "</br>", "</p>", "<"}
	attrs := []string{"", "", "", "", " id=1", " a:b=c", " class='x y'", " a,b"}
	heads := []string{"", "", "<title>a</title>", "<head> <title>&lt;b&gt;</title><meta a=b></head>", "<style>a&amp;</style>", "<link>\n<base>", "<html a=b>", "<body c=d>", "<!--x--><!--y-->"}
	page := today + heads[r.Intn(len(heads))] + heads[r.Intn(len(heads))]
	for range 1 + r.Intn(20) {
		name := names[r.Intn(len(names))]
		switch r.Intn(7) {
		case 0, 1, 2:
			page += "<" + name + attrs[r.Intn(len(attrs))] + ">"
		case 3, 4, 5:
			page += "</" + name + ">"
		default:
			page += texts[r.Intn(len(texts))]
		}
	}
	return page
}

func TestRandomPages(t *testing.T) {
	r := newRandom(133)
	m := newModel()
	told := map[bool]int{}
	for range 20000 {
		in := randomPage(r)
		d := parsed(t, in)
		got := settle.Stable(d)
		told[got]++
		if got != m.stable(d) {
			t.Fatalf("%q: Stable is %v", in, got)
		}
		if got {
			comesBack(t, d)
		}
	}
	if told[true] < 2000 || told[false] < 2000 {
		t.Errorf("too few of one kind: %v", told)
	}
}

// As long as a page may be, a stable one comes back; one byte more can't be parsed.
func TestLongestPage(t *testing.T) {
	bare := len("<!DOCTYPE html><html><head></head><body></body></html>")
	for more, want := range []api.Errno{api.OK, api.ErrLong} {
		h := newHand()
		h.put(h.body, text(strings.Repeat("é", 100)+strings.Repeat("a", api.MaxBytes-200-bare+more)))
		h.stable(t, "a long text", true)
		if _, err := tree.Parse(ser.Page(h.Doc)); err != want {
			t.Errorf("%d bytes: error %d", len(ser.Page(h.Doc)), err)
		}
		if want == api.OK {
			comesBack(t, h.Doc)
		}
	}
}

// A tree of as many nodes as there may be comes back, too.
func TestMostNodes(t *testing.T) {
	const above = 5 // the page, its doctype, html, head and body
	in := today + "<body>" + strings.Repeat("a<br>", (api.MaxNodes-above)/2) + "b"
	if d := parsed(t, in); len(d.Nodes) != api.MaxNodes {
		t.Errorf("%d nodes", len(d.Nodes))
	}
	settled(t, in, true)
}
