package open_test

import (
	"math/rand"
	"slices"
	"strings"
	"testing"

	"woodcut/dom"
	"woodcut/open"
)

// P11.2

const (
	textPoints = "math:mi math:mo math:mn math:ms math:mtext"
	foreigns   = "math:annotation-xml svg:foreignObject svg:desc svg:title"
	usual      = "applet caption html table td th marquee object template " + textPoints + " " + foreigns
	// free is what bounds only the scope Select, and what has the name of another node in a space where that means nothing.
	free = "body p b div li dd tr tbody span select textarea h1 head HTML Table ul: svg:svg svg:table svg:html svg:template svg:td " +
		"math:math math:object math:html math:table svg:ol svg:button math:ul svg:option math:optgroup svg:mi svg:mtext mi mo mn ms mtext " +
		"svg:annotation-xml annotation-xml foreignObject foreignobject svg:foreignobject math:foreignObject desc title math:desc math:title #html #table #option #button"
)

// bounding is which words bound a scope; of Select all but these do.
func bounding(kind int) []string {
	return strings.Fields([]string{usual, usual + " ol ul", usual + " button", "html table template", "optgroup option"}[kind])
}

func bounds(kind int, word string) bool {
	return slices.Contains(bounding(kind), word) != (kind == open.Select)
}

// allWords is every word that may bound a scope, and some that don't.
func allWords() []string {
	return strings.Fields(usual + " ol ul button optgroup option " + free)
}

func TestWhatBounds(t *testing.T) {
	for kind := range 5 {
		for _, word := range allWords() {
			s := stack("p target " + word)
			s.Push(add(s.D, "option"))
			want := !bounds(kind, word)
			if s.Scope(kind, "target") != want {
				t.Errorf("scope %d, bounded by %s: %v", kind, word, !want)
			}
			if s.Seen(kind, s.All[1]) != want {
				t.Errorf("Seen in scope %d, bounded by %s: %v", kind, word, !want)
			}
			// What bounds the scope is in it.
			plain := s.D.Is(s.All[2], word)
			if !s.Seen(kind, s.All[2]) || s.Scope(kind, word) != plain {
				t.Errorf("scope %d: %s isn't in it", kind, word)
			}
		}
	}
}

func TestScope(t *testing.T) {
	for _, c := range []struct {
		stack string
		kind  int
		names string
		want  bool
	}{
		{"html p table", open.Usual, "p", false},
		{"html p table", open.Usual, "table", true},
		{"html p table", open.Usual, "p table", true},
		{"html p table", open.Usual, "x html", false},
		{"html p", open.Usual, "html", true},
		{"html p", open.Usual, "x", false},
		{"html p", open.Usual, "x p", true},
		{"html p", open.Usual, "P", false},
		{"html p", open.Usual, "", false},
		{"p b i", open.Usual, "p", true},
		{"p b i", open.Usual, "x", false},
		{"", open.Usual, "p", false},
		{"p svg:p", open.Usual, "p", true},
		{"svg:p", open.Usual, "p", false},
		{"p svg:desc", open.Usual, "p desc", false},
		{"#p", open.Usual, "p", false},
		{"html li ul", open.Usual, "li", true},
		{"html li ul", open.List, "li", false},
		{"html ul li", open.List, "li", true},
		{"html p ol", open.List, "ol", true},
		{"html p button", open.List, "p", true},
		{"html p button b", open.Button, "p", false},
		{"html p button b", open.Usual, "p", true},
		{"html p ul", open.Button, "p", true},
		{"html table tr td", open.Table, "table", true},
		{"html table tr td", open.Table, "tr", true},
		{"html tr table td", open.Table, "tr", false},
		{"html tr template td", open.Table, "tr", false},
		{"tr math:mi svg:desc button ul caption", open.Table, "tr", true},
		{"html select optgroup option", open.Select, "select", true},
		{"html select optgroup option", open.Select, "optgroup", true},
		{"html select b option", open.Select, "select", false},
		{"html select", open.Select, "html", false},
		{"html select svg:option", open.Select, "select", false},
		{"select option #option", open.Select, "select", false},
	} {
		s := stack(c.stack)
		was := slices.Clone(s.All)
		if s.Scope(c.kind, strings.Fields(c.names)...) != c.want {
			t.Errorf("%s: Scope(%d, %s) isn't %v", c.stack, c.kind, c.names, c.want)
		}
		if !slices.Equal(s.All, was) {
			t.Errorf("%s: Scope changes the stack", c.stack)
		}
	}
	if stack("p").Scope(open.Usual, "") {
		t.Error("Scope finds an element without a name")
	}
}

func TestSeen(t *testing.T) {
	s := stack("html p table b p i")
	for n, want := range map[int]bool{1: false, 2: false, 3: true, 4: true, 5: true, 6: true, 0: false, 7: false, dom.None: false} {
		if s.Seen(open.Usual, n) != want {
			t.Errorf("Seen(%d) isn't %v", n, want)
		}
	}
	// Each node is itself alone, of whatever space, kind and name.
	other := add(s.D, "i")
	s.Push(add(s.D, "svg:g"))
	if s.Seen(open.Usual, other) || !s.Seen(open.Usual, s.Top()) || !s.Seen(open.Select, s.Top()) || s.Seen(open.Select, 6) {
		t.Error("Seen")
	}
	// One that is open twice is seen where it is further in.
	s.Push(2)
	if !s.Seen(open.Usual, 2) || (&open.Stack{D: s.D}).Seen(open.Usual, 2) {
		t.Error("Seen of a node that is open twice")
	}
}

// look is Scope and Seen as the document says them: the place of what is found, and that of what bounds.
func look(s *open.Stack, words []string, kind int, found func(at int) bool) bool {
	hit, bound := -1, -1
	for at := range s.All {
		if found(at) {
			hit = at
		}
		if bounds(kind, words[at]) {
			bound = at
		}
	}
	return hit >= 0 && hit >= bound
}

func TestRandomScopes(t *testing.T) {
	r := rand.New(rand.NewSource(112))
	all := allWords()
	for range 5000 {
		var words []string
		for range r.Intn(8) {
			words = append(words, all[r.Intn(len(all))])
		}
		s := stack(strings.Join(words, " "))
		for kind := range 5 {
			a, b := all[r.Intn(len(all))], all[r.Intn(len(all))]
			want := look(s, words, kind, func(at int) bool {
				return (words[at] == a || words[at] == b) && s.D.Is(s.All[at], a, b)
			})
			if s.Scope(kind, a, b) != want {
				t.Fatalf("%v: Scope(%d, %s, %s) isn't %v", words, kind, a, b, want)
			}
			node := r.Intn(10) - 1
			want = look(s, words, kind, func(at int) bool { return s.All[at] == node })
			if s.Seen(kind, node) != want {
				t.Fatalf("%v: Seen(%d, %d) isn't %v", words, kind, node, want)
			}
		}
	}
}

func TestTextPointAndForeign(t *testing.T) {
	d := dom.New()
	for _, word := range allWords() {
		n := add(d, word)
		if open.TextPoint(d, n) != slices.Contains(strings.Fields(textPoints), word) {
			t.Errorf("TextPoint of %s", word)
		}
		if open.Foreign(d, n) != slices.Contains(strings.Fields(foreigns), word) {
			t.Errorf("Foreign of %s", word)
		}
	}
	for _, node := range []dom.Node{{Kind: dom.Text, Space: dom.Math, Name: "mi"}, {Kind: dom.Doctype, Space: dom.SVG, Name: "desc"}, {Kind: dom.Page, Space: dom.Math, Name: "mo"}, {Kind: dom.Element, Space: 7, Name: "title"}} {
		n := d.Add(node)
		if open.TextPoint(d, n) || open.Foreign(d, n) {
			t.Errorf("%v bounds", node)
		}
	}
}

func TestUntil(t *testing.T) {
	for _, c := range []struct{ stack, names, want string }{
		{"html body p b", "b", "html body p"},
		{"html body p b", "p", "html body"},
		{"html p b p b", "p", "html p b"},
		{"html p b p b", "x html p", "html p b"},
		{"html body p b", "html", ""},
		{"html body p b", "x", ""},
		{"html body p b", "", ""},
		{"html p svg:p b", "p", "html"},
		{"html body P", "p body", "html"},
		{"html b table p", "b", "html"},
		{"", "p", ""},
	} {
		s := stack(c.stack)
		if s.Until(strings.Fields(c.names)...); names(s) != c.want {
			t.Errorf("%s: Until(%s) leaves %s", c.stack, c.names, names(s))
		}
	}
}

func TestBack(t *testing.T) {
	for _, c := range []struct{ stack, names, want string }{
		{"html body p b", "b", "html body p b"},
		{"html body p b", "p", "html body p"},
		{"html p b p b", "p", "html p b p"},
		{"html p b p b", "html p x", "html p b p"},
		{"html body p b", "html", "html"},
		{"html body p b", "x", ""},
		{"html body p b", "", ""},
		{"html p svg:p b", "p", "html p"},
		{"html body P", "p body", "html body"},
		{"html b table p", "b", "html b"},
		{"", "p", ""},
	} {
		s := stack(c.stack)
		if s.Back(strings.Fields(c.names)...); names(s) != c.want {
			t.Errorf("%s: Back(%s) leaves %s", c.stack, c.names, names(s))
		}
	}
}

const (
	impliedAlways = "dd dt li optgroup option p rb rp rt rtc"
	impliedOfAll  = "caption colgroup tbody td tfoot th thead tr"
)

func TestWhatEndsUnsaid(t *testing.T) {
	for _, all := range []bool{false, true} {
		for _, c := range []struct {
			words string
			goes  bool
		}{
			{impliedAlways, true},
			{impliedOfAll, all},
			{"html body b div ul col table ruby select h1 P LI template svg:p math:li svg:td #p #td", false},
		} {
			for _, word := range strings.Fields(c.words) {
				s := stack("div " + word)
				if s.Imply("", all); (len(s.All) == 1) != c.goes {
					t.Errorf("Imply(%v) of %s leaves %s", all, word, names(s))
				}
				s = stack("div " + word)
				if s.Imply(word, all); len(s.All) != 2 {
					t.Errorf("Imply(%v) but %s takes it", all, word)
				}
			}
		}
	}
}

func TestImply(t *testing.T) {
	for _, c := range []struct {
		stack, but string
		all        bool
		want       string
	}{
		{"html p b", "", false, "html p b"},
		{"html p li dd", "", false, "html"},
		{"html p li dd", "li", false, "html p li"},
		{"html p li dd", "dd", false, "html p li dd"},
		{"html p li dd", "p", false, "html p"},
		{"html p li dd", "x", false, "html"},
		{"html p li dd", "P", false, "html"},
		{"html p b li", "", false, "html p b"},
		{"html tr td p", "", false, "html tr td"},
		{"html tr td p", "", true, "html"},
		{"html tr td p", "td", true, "html tr td"},
		{"html tr td p", "html", true, "html"},
		{"html p svg:p p", "", true, "html p svg:p"},
		{"p li", "", false, ""},
		{"p li", "", true, ""},
		{"", "", true, ""},
	} {
		s := stack(c.stack)
		if s.Imply(c.but, c.all); names(s) != c.want {
			t.Errorf("%s: Imply(%s, %v) leaves %s", c.stack, c.but, c.all, names(s))
		}
	}
}
