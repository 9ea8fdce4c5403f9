package open_test

import (
	"math"
	"math/rand"
	"slices"
	"strings"
	"testing"

	"woodcut/dom"
	"woodcut/open"
)

// stack is the elements of some words, the outermost first: "svg:" and "math:" ahead of a name are spaces, "#" ahead of it lets it be a text of that name.
func stack(words string) *open.Stack {
	s := &open.Stack{D: dom.New()}
	for _, word := range strings.Fields(words) {
		s.Push(add(s.D, word))
	}
	return s
}

func add(d *dom.Doc, word string) int {
	n := dom.Node{Kind: dom.Element, Name: word}
	if name, found := strings.CutPrefix(word, "svg:"); found {
		n.Space, n.Name = dom.SVG, name
	}
	if name, found := strings.CutPrefix(word, "math:"); found {
		n.Space, n.Name = dom.Math, name
	}
	if name, found := strings.CutPrefix(word, "#"); found {
		n.Kind, n.Name, n.Data = dom.Text, name, name
	}
	return d.Add(n)
}

// names is the words of a stack.
func names(s *open.Stack) string {
	var out []string
	for _, n := range s.All {
		word := s.D.Nodes[n].Name
		switch s.D.Nodes[n].Space {
		case dom.SVG:
			word = "svg:" + word
		case dom.Math:
			word = "math:" + word
		}
		out = append(out, word)
	}
	return strings.Join(out, " ")
}

// nowhere is numbers that no small tree has a node of.
func nowhere() []int { return []int{dom.None, -2, math.MinInt, 999, math.MaxInt} }

func TestKindsAreNumbered(t *testing.T) {
	if open.Usual != 0 || open.List != 1 || open.Button != 2 || open.Table != 3 || open.Select != 4 {
		t.Error("the kinds")
	}
}

// P11.1

func TestPushAndPop(t *testing.T) {
	s := stack("html body p")
	all := slices.Clone(s.All)
	if !slices.Equal(all, []int{1, 2, 3}) {
		t.Fatalf("pushed: %v", all)
	}
	s.Push(all[1])
	for _, want := range []int{2, 3, 2, 1} {
		if s.Top() != want || s.Pop() != want {
			t.Errorf("Top or Pop isn't %d", want)
		}
	}
	for range 2 {
		if s.Top() != dom.None || s.Pop() != dom.None || len(s.All) != 0 {
			t.Error("an empty stack has a Top, or a Pop")
		}
	}
	s.Push(7)
	if s.Top() != 7 {
		t.Error("a stack that was empty")
	}
}

func TestAt(t *testing.T) {
	s := &open.Stack{D: dom.New(), All: []int{5, 7, 5, 0, 7}}
	for n, want := range map[int]int{5: 0, 7: 1, 0: 3, 1: -1, 6: -1, dom.None: -1, math.MinInt: -1, math.MaxInt: -1} {
		if got := s.At(n); got != want {
			t.Errorf("At(%d) = %d, want %d", n, got, want)
		}
	}
}

func TestHas(t *testing.T) {
	s := stack("html body svg:svg math:mi #em p b")
	for _, c := range []struct {
		names string
		want  bool
	}{
		{"html", true}, {"body", true}, {"b", true}, {"x y p", true}, {"p x", true},
		{"", false}, {"x", false}, {"x y", false}, {"P", false},
		// Only elements of HTML are found.
		{"svg", false}, {"mi", false}, {"em", false},
	} {
		if s.Has(strings.Fields(c.names)...) != c.want {
			t.Errorf("Has(%s) isn't %v", c.names, c.want)
		}
	}
	if s.Has("") || !stack("p").Has("p") {
		t.Error("Has")
	}
}

func TestRemove(t *testing.T) {
	for n, want := range map[int][]int{1: {2, 3, 2, 4}, 2: {1, 3, 2, 4}, 3: {1, 2, 2, 4}, 4: {1, 2, 3, 2}, 5: {1, 2, 3, 2, 4}, dom.None: {1, 2, 3, 2, 4}} {
		s := &open.Stack{D: dom.New(), All: []int{1, 2, 3, 2, 4}}
		if s.Remove(n); !slices.Equal(s.All, want) {
			t.Errorf("Remove(%d) leaves %v, want %v", n, s.All, want)
		}
	}
	s := stack("p")
	s.Remove(s.Top())
	s.Remove(1)
	if len(s.All) != 0 {
		t.Error("Remove of the last one")
	}
}

func TestInsert(t *testing.T) {
	for at, want := range map[int][]int{0: {9, 1, 2, 3}, 1: {1, 9, 2, 3}, 2: {1, 2, 9, 3}, 3: {1, 2, 3, 9}, 4: {1, 2, 3, 9}, math.MaxInt: {1, 2, 3, 9}, -1: {9, 1, 2, 3}, math.MinInt: {9, 1, 2, 3}} {
		s := &open.Stack{D: dom.New(), All: []int{1, 2, 3}}
		if s.Insert(at, 9); !slices.Equal(s.All, want) {
			t.Errorf("Insert(%d) makes %v, want %v", at, s.All, want)
		}
		empty := &open.Stack{D: dom.New()}
		if empty.Insert(at, 9); !slices.Equal(empty.All, []int{9}) {
			t.Errorf("Insert(%d) in nothing makes %v", at, empty.All)
		}
	}
}

func TestNoCallWritesOverAListThatItWasHanded(t *testing.T) {
	given := []int{1, 2, 3, 2}
	for _, change := range []func(s *open.Stack){
		func(s *open.Stack) { s.Push(9) },
		func(s *open.Stack) { s.Pop(); s.Push(9) },
		func(s *open.Stack) { s.Until(); s.Push(9) },
		func(s *open.Stack) { s.Back("p"); s.Push(9) },
		func(s *open.Stack) { s.Remove(1) },
		func(s *open.Stack) { s.Remove(2); s.Push(9) },
		func(s *open.Stack) { s.Insert(0, 9) },
		func(s *open.Stack) { s.Pop(); s.Insert(1, 9) },
	} {
		s := &open.Stack{D: dom.New(), All: given}
		if change(s); slices.Equal(s.All, given) || !slices.Equal(given, []int{1, 2, 3, 2}) {
			t.Fatalf("%v, of %v", s.All, given)
		}
	}
}

func TestStacksAgainstAList(t *testing.T) {
	r := rand.New(rand.NewSource(11))
	for range 300 {
		s := &open.Stack{D: dom.New()}
		var list []int
		for range 60 {
			n, at := r.Intn(6), r.Intn(12)-2
			switch r.Intn(5) {
			case 0:
				want := dom.None
				if len(list) > 0 {
					want, list = list[len(list)-1], list[:len(list)-1]
				}
				if got := s.Pop(); got != want {
					t.Fatalf("Pop = %d, want %d", got, want)
				}
			case 1:
				s.Remove(n)
				for i, x := range list {
					if x == n {
						list = slices.Delete(list, i, i+1)
						break
					}
				}
			case 2:
				s.Insert(at, n)
				list = slices.Insert(list, min(max(at, 0), len(list)), n)
			default:
				s.Push(n)
				list = append(list, n)
			}
			if !slices.Equal(s.All, list) || s.At(n) != slices.Index(list, n) {
				t.Fatalf("%v, want %v", s.All, list)
			}
		}
	}
}

func TestANilStackStaysEmpty(t *testing.T) {
	var s *open.Stack
	s.Push(1)
	s.Insert(0, 1)
	s.Insert(-1, 1)
	s.Remove(1)
	s.Until("p")
	s.Until()
	s.Back("p")
	s.Imply("", true)
	if s.Top() != dom.None || s.Pop() != dom.None || s.At(1) != -1 || s.At(dom.None) != -1 || s.Has("p") || s.Has() || s != nil {
		t.Error("a nil stack holds something")
	}
	for kind := range 5 {
		if s.Scope(kind, "p") || s.Scope(kind) || s.Seen(kind, 1) || s.Seen(kind, dom.None) {
			t.Error("a nil stack shows something")
		}
	}
}

// Rule 1: numbers of no node, and no tree at all.
func TestStacksOfNoNodes(t *testing.T) {
	for _, d := range []*dom.Doc{nil, {}, dom.New()} {
		s := &open.Stack{D: d, All: nowhere()}
		for kind := -1; kind <= 5; kind++ {
			if s.Scope(kind, "", "html") || s.Has("", "html") {
				t.Error("what is no node is found")
			}
			for _, n := range nowhere() {
				s.Seen(kind, n)
			}
		}
		for _, n := range nowhere() {
			if open.TextPoint(d, n) || open.Foreign(d, n) {
				t.Error("what is no node bounds")
			}
		}
		s.Imply("", true)
		if !slices.Equal(s.All, nowhere()) {
			t.Error("Imply takes what is no element")
		}
		if s.Back("p"); len(s.All) != 0 {
			t.Error("Back finds what is no element")
		}
		s.All = nowhere()
		if s.Until(""); len(s.All) != 0 {
			t.Error("Until finds what is no element")
		}
	}
}
