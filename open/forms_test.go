package open_test

import (
	"math/rand"
	"slices"
	"testing"

	"woodcut/dom"
	"woodcut/open"
	"woodcut/token"
)

// tag is a start tag with attributes of names and values, in turn.
func tag(name string, words ...string) token.Token {
	x := token.Token{Kind: token.Start, Name: name}
	for i := 0; i+1 < len(words); i += 2 {
		x.Attrs = append(x.Attrs, token.Attr{Name: words[i], Val: words[i+1]})
	}
	return x
}

// forms is elements of a name each, with the nodes 1, 2 and so on, or with marks where there is none.
func forms(words ...string) open.Forms {
	var f open.Forms
	for i, word := range words {
		if word == "" {
			f.Mark()
		} else {
			f.Add(i+1, tag(word))
		}
	}
	return f
}

func nodes(f open.Forms) []int {
	var out []int
	for _, x := range f {
		out = append(out, x.Node)
	}
	return out
}

// holds tells of Forms of other nodes.
func holds(t *testing.T, f open.Forms, want ...int) {
	t.Helper()
	if got := nodes(f); !slices.Equal(got, want) {
		t.Errorf("the nodes are %v, want %v", got, want)
	}
}

// P11.3

func TestMarkAndAdd(t *testing.T) {
	var f open.Forms
	f.Mark()
	f.Add(3, tag("b", "x", "1"))
	f.Add(0, tag("i"))
	f.Mark()
	f.Mark()
	f.Add(3, tag("u"))
	holds(t, f, dom.None, 3, 0, dom.None, dom.None, 3)
	if !f[1].Tag.Same(tag("b", "x", "1")) || !f[2].Tag.Same(tag("i")) || !f[5].Tag.Same(tag("u")) {
		t.Errorf("the tags are %+v", f)
	}
	for _, at := range []int{0, 3, 4} {
		if !f[at].Tag.Same(token.Token{}) {
			t.Errorf("a mark has the tag %+v", f[at].Tag)
		}
	}
}

func TestAddKeepsTheWholeTag(t *testing.T) {
	given := token.Token{Kind: token.End, Name: "b", Attrs: tag("", "x", "1", "y", "2").Attrs, Self: true, Data: "d", Public: "p", System: "s", HasPub: true, HasSys: true, Quirks: true}
	want := given
	want.Attrs = slices.Clone(given.Attrs)
	var f open.Forms
	f.Add(1, given)
	if !f[0].Tag.Same(want) || !given.Same(want) {
		t.Errorf("the tag is %+v", f[0].Tag)
	}
	given.Attrs[0].Val = "other"
	if !f[0].Tag.Same(want) {
		t.Error("the attributes are those that were handed in")
	}
}

func TestOfThreeAlikeTheEarliestGoes(t *testing.T) {
	for _, c := range []struct {
		name string
		tags []token.Token
		want []int
	}{
		{"two", []token.Token{tag("b"), tag("b")}, []int{1, 2}},
		{"three", []token.Token{tag("b"), tag("b"), tag("b")}, []int{1, 2, 3}},
		{"four", []token.Token{tag("b"), tag("b"), tag("b"), tag("b")}, []int{2, 3, 4}},
		{"six", []token.Token{tag("b"), tag("b"), tag("b"), tag("b"), tag("b"), tag("b")}, []int{4, 5, 6}},
		{"others between", []token.Token{tag("i"), tag("b"), tag("i"), tag("b"), tag("u"), tag("b"), tag("i"), tag("b")}, []int{1, 3, 4, 5, 6, 7, 8}},
		{"other names", []token.Token{tag("b"), tag("B"), tag("b"), tag(""), tag("b")}, []int{1, 2, 3, 4, 5}},
		{"a mark", []token.Token{tag("b"), tag("b"), {}, tag("b"), tag("b")}, []int{1, 2, -1, 4, 5}},
		{"a mark, and three", []token.Token{tag("b"), tag("b"), tag("b"), {}, tag("b"), tag("b"), tag("b"), tag("b")}, []int{1, 2, 3, -1, 6, 7, 8}},
		{"two marks", []token.Token{{}, tag("b"), tag("b"), tag("b"), {}, tag("b")}, []int{-1, 2, 3, 4, -1, 6}},
		{"attributes", []token.Token{tag("b", "x", "1"), tag("b", "x", "1"), tag("b", "x", "1"), tag("b"), tag("b", "x", "2"), tag("b", "y", "1"), tag("b", "x", "1", "y", "1")}, []int{1, 2, 3, 4, 5, 6, 7}},
		{"the same attributes", []token.Token{tag("b"), tag("b", "x", "1"), tag("b", "x", "1"), tag("b", "x", "1"), tag("b", "x", "1")}, []int{1, 3, 4, 5}},
		{"in another order", []token.Token{tag("b", "x", "1", "y", "2"), tag("b", "y", "2", "x", "1"), tag("b", "x", "1", "y", "2"), tag("b", "y", "2", "x", "1")}, []int{2, 3, 4}},
	} {
		var f open.Forms
		for i, x := range c.tags {
			if x.Kind == 0 {
				f.Mark()
			} else {
				f.Add(i+1, x)
			}
		}
		if got := nodes(f); !slices.Equal(got, c.want) {
			t.Errorf("%s: the nodes are %v, want %v", c.name, got, c.want)
		}
	}
}

func TestOnlyNameAndAttributesAreAlike(t *testing.T) {
	var f open.Forms
	for n, x := range []token.Token{{Name: "b", Self: true}, {Kind: token.End, Name: "b"}, {Name: "b", Data: "d"}, {Kind: token.Start, Name: "b"}} {
		f.Add(n+1, x)
	}
	holds(t, f, 2, 3, 4)
	// More than three are alike only where Forms were made by hand: one goes all the same.
	b := open.Form{Tag: tag("b")}
	f = open.Forms{b, b, b, b, b}
	f.Add(9, tag("b"))
	holds(t, f, 0, 0, 0, 0, 9)
}

func TestAtOfForms(t *testing.T) {
	f := open.Forms{{Node: 5}, {Node: dom.None}, {Node: 7}, {Node: 5}, {Node: 0}}
	for n, want := range map[int]int{5: 0, 7: 2, 0: 4, 1: -1, dom.None: -1, -2: -1} {
		if got := f.At(n); got != want {
			t.Errorf("At(%d) = %d, want %d", n, got, want)
		}
	}
	if open.Forms(nil).At(5) != -1 || (open.Forms{}).At(dom.None) != -1 {
		t.Error("At of nothing")
	}
}

func TestLast(t *testing.T) {
	for _, c := range []struct {
		forms []string
		name  string
		want  int
	}{
		{[]string{"b", "i", "b", "i", "u"}, "b", 3},
		{[]string{"b", "i", "b", "i", "u"}, "i", 4},
		{[]string{"b", "i", "b", "i", "u"}, "u", 5},
		{[]string{"b"}, "b", 1},
		{[]string{"b"}, "B", dom.None},
		{[]string{"b"}, "", dom.None},
		{[]string{"b", ""}, "b", dom.None},
		{[]string{"b", "", "i"}, "b", dom.None},
		{[]string{"b", "", "b", "i"}, "b", 3},
		{[]string{"", "b", "", "i"}, "b", dom.None},
		{[]string{"", ""}, "", dom.None},
		{nil, "b", dom.None},
	} {
		if got := forms(c.forms...).Last(c.name); got != c.want {
			t.Errorf("%q: Last(%s) = %d, want %d", c.forms, c.name, got, c.want)
		}
	}
	var f open.Forms
	f.Add(4, tag(""))
	if f.Last("") != 4 || f.Last("b") != dom.None {
		t.Error("Last of an empty name")
	}
}

func TestRemoveOfForms(t *testing.T) {
	for n, want := range map[int][]int{1: {-1, 3, -1, 5}, 3: {1, -1, -1, 5}, 5: {1, -1, 3, -1}, 2: {1, -1, 3, -1, 5}, dom.None: {1, -1, 3, -1, 5}, 0: {1, -1, 3, -1, 5}} {
		f := forms("b", "", "b", "", "b")
		f.Remove(n)
		holds(t, f, want...)
	}
	f := forms("b")
	f.Remove(1)
	f.Remove(1)
	holds(t, f)
}

func TestClear(t *testing.T) {
	f := forms("b", "", "i", "", "", "b", "i")
	for _, want := range [][]int{{1, -1, 3, -1}, {1, -1, 3}, {1}, nil, nil} {
		f.Clear()
		holds(t, f, want...)
	}
	f.Add(8, tag("b"))
	holds(t, f, 8)
}

func TestANilFormsStaysEmpty(t *testing.T) {
	var none *open.Forms
	none.Mark()
	none.Add(1, tag("b"))
	none.Remove(1)
	none.Remove(dom.None)
	none.Clear()
	if none != nil {
		t.Error("nil Forms")
	}
	var f open.Forms
	f.Remove(1)
	f.Clear()
	holds(t, f)
}

func TestNoCallWritesOverFormsThatItWasHanded(t *testing.T) {
	given := slices.Clip(forms("b", "b", "", "b", "b", "b"))
	for _, change := range []func(f *open.Forms){
		func(f *open.Forms) { f.Add(9, tag("b")) },
		func(f *open.Forms) { f.Mark() },
		func(f *open.Forms) { f.Remove(1) },
		func(f *open.Forms) { f.Remove(6); f.Mark() },
		func(f *open.Forms) { f.Clear(); f.Mark() },
		func(f *open.Forms) { f.Clear(); f.Add(9, tag("i")) },
	} {
		f := given
		change(&f)
		holds(t, given, 1, 2, dom.None, 4, 5, 6)
	}
}

// A model of Forms: entries with all that is told of them, gone through from the eldest on.
type entry struct {
	node      int
	name, val string
}

func tail(list []entry) int {
	at := 0
	for i, x := range list {
		if x.node == dom.None {
			at = i + 1
		}
	}
	return at
}

func addTo(list []entry, x entry) []entry {
	var alike []int
	for i := tail(list); i < len(list); i++ {
		if list[i].name == x.name && list[i].val == x.val {
			alike = append(alike, i)
		}
	}
	if len(alike) >= 3 {
		list = slices.Delete(slices.Clone(list), alike[0], alike[0]+1)
	}
	return append(list, x)
}

func last(list []entry, name string) int {
	out := dom.None
	for _, x := range list[tail(list):] {
		if x.name == name {
			out = x.node
		}
	}
	return out
}

func TestFormsAgainstAModel(t *testing.T) {
	r := rand.New(rand.NewSource(113))
	for range 500 {
		var f open.Forms
		var list []entry
		for n := range 80 {
			x := entry{n, []string{"b", "i", "a"}[r.Intn(3)], []string{"1", "2"}[r.Intn(2)]}
			some := r.Intn(n+1) - 1
			switch r.Intn(12) {
			case 0:
				f.Mark()
				list = append(list, entry{node: dom.None})
			case 1:
				f.Clear()
				list = list[:max(0, tail(list)-1)]
			case 2, 3:
				f.Remove(some)
				list = slices.DeleteFunc(slices.Clone(list), func(x entry) bool { return x.node == some && some != dom.None })
			default:
				f.Add(x.node, tag(x.name, "x", x.val))
				list = addTo(list, x)
			}
			same := slices.EqualFunc(f, list, func(a open.Form, b entry) bool {
				return a.Node == b.node && a.Tag.Name == b.name && (b.name == "" || a.Tag.Attrs[0].Val == b.val)
			})
			if !same || f.Last(x.name) != last(list, x.name) {
				t.Fatalf("%+v, want %+v", f, list)
			}
			if at := f.At(some); at != slices.IndexFunc(list, func(x entry) bool { return x.node == some && some >= 0 }) {
				t.Fatalf("At(%d) = %d of %v", some, at, list)
			}
		}
	}
}
