package meta_test

import (
	"fmt"
	"math"
	"math/rand"
	"slices"
	"strings"
	"testing"

	"woodcut/api"
	"woodcut/dom"
	"woodcut/meta"
)

// P16.3

// laid is a tree, written as a list of nodes, each with the node above it: a name in small letters is an element's, anything else a text.
func laid(t *testing.T, nodes ...string) *dom.Doc {
	t.Helper()
	d := dom.New()
	for _, node := range nodes {
		var up int
		var name string
		if _, err := fmt.Sscanf(node, "%d %s", &up, &name); err != nil {
			t.Fatal(err)
		}
		switch {
		case name == "-":
			put(t, d, up, word(""))
		case name[0] == '!':
			put(t, d, up, dom.Node{Kind: dom.Comment, Data: name})
		case name == strings.ToLower(name):
			put(t, d, up, element(name))
		default:
			put(t, d, up, word(name))
		}
	}
	return d
}

func TestKids(t *testing.T) {
	for _, c := range []struct {
		nodes string
		n     int
		want  string
	}{
		{"0 p,1 a,1 b,1 i", 1, "2.a 3.b 4.i"},
		{"0 p,1 a,1 b,1 i", 2, "1.p[3.b 4.i]"},
		{"0 p,0 div,0 u,2 a,2 b,4 i", 2, "1.p 4.a[6.i] 5.b 3.u"},
		{"0 p,0 div,0 u,2 a,2 b,4 i", 1, "2.div[4.a[6.i] 5.b] 3.u"},
		{"0 p,0 div,0 u,2 a,2 b,4 i", 3, "1.p 2.div[4.a[6.i] 5.b]"},
		{"0 p,0 div,0 u,2 a,2 b,4 i", 4, "1.p 2.div[6.i 5.b] 3.u"},
		// The texts that come to stand side by side are one, at both ends.
		{"0 A,0 p,0 B,2 C", 2, "1.ACB"},
		{"0 A,0 p,0 B", 2, "1.AB"},
		{"0 A,0 p,0 B,2 C,2 b,2 D", 2, "1.AC 5.b 6.DB"},
		{"0 A,0 p,0 B,2 b", 2, "1.A 4.b 3.B"},
		{"0 p,0 B,1 C", 1, "3.CB"},
		{"0 A,0 p,2 C", 2, "1.AC"},
		{"0 A,0 p,0 B,2 !c", 2, "1.A 4.!c 3.B"},
		// And so are those beneath the same node that stood so before.
		{"0 A,0 B,0 p,0 b,0 C,0 D", 3, "1.AB 4.b 5.CD"},
		// Those deeper down aren't.
		{"0 p,1 b,2 A,2 B,0 u,5 C,5 D", 1, "2.b[3.A 4.B] 5.u[6.C 7.D]"},
		{"0 div,1 p,2 A,2 B,0 C,0 D", 2, "1.div[3.AB] 5.C 6.D"},
		// A text, too, is replaced by what is beneath it: nothing.
		{"0 A,0 B,0 C", 2, "1.AC"},
		{"0 p,1 A", 2, "1.p"},
		{"0 !c,0 p", 1, "2.p"},
		// Of a template its contents come, its own kids go with it.
		{"0 A,0 template,0 b,3 B,3 i,2 u", 2, "1.AB 6.i 4.b"},
		{"0 template,1 u", 1, ""},
		{"0 template,2 p,3 b", 3, "1.template{4.b}"},
		{"0 template,2 p,2 A,3 B", 3, "1.template{5.BA}"},
		{"0 template,1 p,1 A,3 B", 3, "1.template{}[5.BA]"},
		{"0 template,2 template,4 template,6 p,6 A", 3, "1.template{5.template{7.p 8.A}}"},
	} {
		d := laid(t, strings.Split(c.nodes, ",")...)
		if err := meta.Kids(d, c.n); err != api.OK {
			t.Errorf("%s: Kids(%d): error %d", c.nodes, c.n, err)
		}
		if got := show(d, dom.Root); got != c.want {
			t.Errorf("%s: Kids(%d): %s, want %s", c.nodes, c.n, got, c.want)
		}
		whole(t, d)
		if d.Up(c.n) != dom.None {
			t.Errorf("%s: %d still stands beneath %d", c.nodes, c.n, d.Up(c.n))
		}
		if err := meta.Kids(d, c.n); err != api.ErrArg {
			t.Errorf("%s: Kids(%d) again: error %d", c.nodes, c.n, err)
		}
	}
}

func TestKidsKeepTemplatesOwn(t *testing.T) {
	d := laid(t, "0 template", "1 u", "2 p")
	if err := meta.Kids(d, 1); err != api.OK {
		t.Errorf("error %d", err)
	}
	if got := show(d, dom.Root) + "|" + show(d, 1) + "|" + show(d, 2); got != "4.p|3.u|" {
		t.Error(got)
	}
	if d.Nodes[1].Inner != 2 {
		t.Error("the template lost what holds its contents")
	}
}

func TestKidsOfWhatStandsNowhere(t *testing.T) {
	d := laid(t, "0 template", "2 A", "2 B", "0 A", "0 B")
	loose := d.Add(element("p"))
	put(t, d, loose, word("A"))
	before := show(d, dom.Root)
	for _, n := range []int{loose, dom.Root, 2, dom.None, -2, len(d.Nodes), math.MaxInt, math.MinInt} {
		if err := meta.Kids(d, n); err != api.ErrArg {
			t.Errorf("Kids(%d): error %d", n, err)
		}
	}
	if got := show(d, dom.Root); got != before || show(d, loose) != "8.A" {
		t.Errorf("now %s, %s", got, show(d, loose))
	}
	if err := meta.Kids(nil, 0); err != api.ErrArg {
		t.Errorf("of no tree: error %d", err)
	}
	// What stands beneath that which stands nowhere does stand somewhere.
	if err := meta.Kids(d, loose+1); err != api.OK || show(d, loose) != "" {
		t.Errorf("error %d, %s", err, show(d, loose))
	}
}

func TestJoin(t *testing.T) {
	for _, c := range []struct {
		nodes string
		n     int
		want  string
	}{
		{"0 p", 0, "1.p"},
		{"0 p", 1, "1.p"},
		{"0 A", 0, "1.A"},
		{"0 A,0 B", 0, "1.AB"},
		{"0 B,0 A,0 C,0 A", 0, "1.BACA"},
		{"0 A,0 p,0 B", 0, "1.A 2.p 3.B"},
		{"0 A,0 !c,0 B", 0, "1.A 2.!c 3.B"},
		{"0 A,0 B,0 p,0 C,0 D,0 E,0 b", 0, "1.AB 3.p 4.CDE 7.b"},
		{"0 p,0 A,0 B", 0, "1.p 2.AB"},
		{"0 p,0 A,0 B,0 b,0 i,0 C,0 D", 0, "1.p 2.AB 4.b 5.i 6.CD"},
		{"0 -,0 A", 0, "1.A"},
		{"0 A,0 -,0 B", 0, "1.AB"},
		{"0 -", 0, "1."},
		{"0 -,0 -", 0, "1."},
		{"0 A,0 B,0 p,3 C,3 D", 0, "1.AB 3.p[4.C 5.D]"},
		{"0 A,0 B,0 p,3 C,3 D", 3, "1.A 2.B 3.p[4.CD]"},
		{"0 A,0 B", 1, "1.A 2.B"},
		{"0 template,2 A,2 B,1 C,1 D", 1, "1.template{3.A 4.B}[5.CD]"},
		{"0 template,2 A,2 B,1 C,1 D", 2, "1.template{3.AB}[5.C 6.D]"},
		{"0 template,2 A,2 B,1 C,1 D,0 E,0 F", 0, "1.template{3.A 4.B}[5.C 6.D] 7.EF"},
	} {
		d := laid(t, strings.Split(c.nodes, ",")...)
		for range 2 {
			if err := meta.Join(d, c.n); err != api.OK {
				t.Errorf("%s: Join(%d): error %d", c.nodes, c.n, err)
			}
			if got := show(d, dom.Root); got != c.want {
				t.Errorf("%s: Join(%d): %s, want %s", c.nodes, c.n, got, c.want)
			}
			whole(t, d)
		}
	}
}

func TestJoinOfNoNode(t *testing.T) {
	d := laid(t, "0 A", "0 B")
	for _, n := range []int{dom.None, -2, 3, math.MaxInt, math.MinInt} {
		if err := meta.Join(d, n); err != api.ErrArg {
			t.Errorf("Join(%d): error %d", n, err)
		}
	}
	if got := show(d, dom.Root); got != "1.A 2.B" {
		t.Error(got)
	}
	if err := meta.Join(nil, 0); err != api.ErrArg {
		t.Errorf("of no tree: error %d", err)
	}
	loose := d.Add(element("p"))
	put(t, d, loose, word("A"))
	put(t, d, loose, word("B"))
	if err := meta.Join(d, loose); err != api.OK || show(d, loose) != "4.AB" {
		t.Errorf("beneath what stands nowhere: error %d, %s", err, show(d, loose))
	}
	if err := meta.Join(d, d.Add(dom.Node{})); err != api.OK {
		t.Errorf("a node of no kind: error %d", err)
	}
}

// The other texts keep what they said, and the first one all else that it was.
func TestJoinKeepsNodes(t *testing.T) {
	d := laid(t, "0 A", "0 B", "0 C")
	d.Nodes[1].Attrs = element("", "x", "y").Attrs
	if err := meta.Join(d, dom.Root); err != api.OK {
		t.Fatal(err)
	}
	if d.Nodes[2].Data != "B" || d.Nodes[3].Data != "C" || d.Up(2) != dom.None || d.Up(3) != dom.None || len(d.Nodes[1].Attrs) != 1 {
		t.Error(d.Nodes)
	}
}

func TestManyNodes(t *testing.T) {
	const half = api.MaxNodes/2 - 2
	d := dom.New()
	for range half {
		put(t, d, dom.Root, word("a"))
	}
	p := put(t, d, dom.Root, element("p"))
	for range half {
		put(t, d, p, word("b"))
	}
	if err := meta.Kids(d, p); err != api.OK {
		t.Fatal(err)
	}
	if kids := d.Kids(dom.Root); len(kids) != 1 || d.Nodes[kids[0]].Data != strings.Repeat("a", half)+strings.Repeat("b", half) {
		t.Errorf("%d kids", len(kids))
	}
}

// Trees that were laid by hand into a ring, or name nodes that aren't there, may be changed in any way, but all ends.
func TestChangesOfARing(t *testing.T) {
	for _, name := range []string{"p", "template"} {
		for which := range 4 {
			d, top, last := ring(t, name)
			n := []int{top, last, top, last}[which]
			if which < 2 {
				meta.Kids(d, n)
			} else {
				meta.Join(d, n)
			}
			meta.Join(d, dom.Root)
		}
	}
	for _, inner := range []int{-7, 0, 1, 2, 3, 99, math.MaxInt, math.MinInt} {
		for _, up := range []int{-7, 0, 1, 2, 3, 99, math.MaxInt, math.MinInt} {
			d := laid(t, "0 p", "1 A", "1 B")
			d.Nodes[1].Inner, d.Nodes[1].Up = inner, up
			d.Nodes[2].Kids = []int{2, 2, 3, 1, 0, 99}
			d.Nodes[3].Up = up
			for n := range 5 {
				meta.Kids(d, n-1)
				meta.Join(d, n-1)
			}
		}
	}
	d := &dom.Doc{Nodes: []dom.Node{{Kind: dom.Page, Kids: []int{1, 2, 1}}, {Kind: dom.Text, Data: "a"}, {Kind: dom.Text, Data: "b"}}}
	meta.Join(d, 0)
	for n := range 3 {
		meta.Kids(d, n)
	}
}

// A node that holds the page's number by default, as one does that was made by hand, isn't taken for a template.
func TestKidsByHand(t *testing.T) {
	d := &dom.Doc{Nodes: []dom.Node{
		{Kind: dom.Page, Up: dom.None, Kids: []int{1}},
		{Kind: dom.Element, Name: "p", Kids: []int{2}},
		{Kind: dom.Element, Name: "b", Up: 1},
	}}
	if err := meta.Kids(d, 1); err != api.OK || !slices.Equal(d.Kids(0), []int{2}) {
		t.Errorf("error %d, %v", err, d.Kids(0))
	}
	d = laid(t, "0 p", "1 b")
	d.Nodes[2].Kids = []int{1}
	if err := meta.Kids(d, 2); err != api.ErrArg {
		t.Errorf("a node beneath itself: error %d", err)
	}
}

// shape is a node without its number: what Kids and Join make of shapes can be told without a tree.
type shape struct {
	n          int
	text       string // of a text
	kids, held []shape
}

func shapes(d *dom.Doc, n int) []shape {
	var out []shape
	for _, kid := range d.Nodes[n].Kids {
		x := d.Nodes[kid]
		s := shape{n: kid, kids: shapes(d, kid)}
		if x.Kind == dom.Text {
			s.text = x.Data
		}
		if x.Inner != dom.None {
			s.held = shapes(d, x.Inner)
		}
		out = append(out, s)
	}
	return out
}

// without is shapes, one of which is replaced by what it holds; whose is told as those of the node with that number.
func without(d *dom.Doc, list []shape, n int) []shape {
	var out []shape
	here := false
	for _, s := range list {
		s.kids, s.held = without(d, s.kids, n), without(d, s.held, n)
		switch {
		case s.n != n:
			out = append(out, s)
		case d.Nodes[n].Inner != dom.None:
			out, here = append(out, s.held...), true
		default:
			out, here = append(out, s.kids...), true
		}
	}
	if here {
		out = joined(out)
	}
	return out
}

func joined(list []shape) []shape {
	var out []shape
	for _, s := range list {
		if last := len(out) - 1; s.text != "" && last >= 0 && out[last].text != "" {
			out[last].text += s.text
		} else {
			out = append(out, s)
		}
	}
	return out
}

// split is a random tree whose texts stand in pieces.
func split(t *testing.T, r *rand.Rand) *dom.Doc {
	d := dom.New()
	ups := []int{dom.Root}
	for range r.Intn(25) {
		up := ups[r.Intn(len(ups))]
		switch r.Intn(5) {
		case 0:
			n := put(t, d, up, element("template"))
			ups = append(ups, n, n+1)
		case 1:
			ups = append(ups, put(t, d, up, element("p")))
		case 2:
			put(t, d, up, dom.Node{Kind: dom.Comment, Data: "c"})
		default:
			put(t, d, up, word(string(rune('a'+r.Intn(26)))))
		}
	}
	return d
}

func TestRandomTreesAgainstShapes(t *testing.T) {
	r := rand.New(rand.NewSource(163))
	for range 20000 {
		d := split(t, r)
		before, n := show(d, dom.Root), r.Intn(len(d.Nodes))
		all := shapes(d, dom.Root)
		want := fmt.Sprint(without(d, all, n))
		up := d.Up(n)
		if err := meta.Kids(d, n); (err == api.OK) != (up != dom.None) {
			t.Fatalf("%s: Kids(%d): error %d", before, n, err)
		}
		if got := fmt.Sprint(shapes(d, dom.Root)); got != want {
			t.Fatalf("%s: Kids(%d): %s, want %s", before, n, got, want)
		}
		whole(t, d)
		n = r.Intn(len(d.Nodes))
		before, want = show(d, n), fmt.Sprint(joined(shapes(d, n)))
		if err := meta.Join(d, n); err != api.OK {
			t.Fatalf("%s: Join(%d): error %d", before, n, err)
		}
		if got := fmt.Sprint(shapes(d, n)); got != want {
			t.Fatalf("%s: Join(%d): %s, want %s", before, n, got, want)
		}
		whole(t, d)
	}
}
