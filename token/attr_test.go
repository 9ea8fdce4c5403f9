package token_test

import (
	"math/rand"
	"slices"
	"strconv"
	"testing"

	"woodcut/token"
)

// attrs is attributes of names and values, in turn.
func attrs(words ...string) []token.Attr {
	var list []token.Attr
	for i := 0; i+1 < len(words); i += 2 {
		list = append(list, token.Attr{Name: words[i], Val: words[i+1]})
	}
	return list
}

// numbered is attributes of so many different names.
func numbered(n int) []token.Attr {
	list := make([]token.Attr, n)
	for i := range list {
		list[i] = token.Attr{Name: "n" + strconv.Itoa(i), Val: strconv.Itoa(i)}
	}
	return list
}

// P7.1

func TestGet(t *testing.T) {
	list := attrs("a", "1", "b", "2", "a", "3", "", "no name", "c", "")
	for _, c := range []struct {
		name, want string
		found      bool
	}{
		{"a", "1", true},
		{"b", "2", true},
		{"", "no name", true},
		{"c", "", true},
		{"A", "", false},
		{"d", "", false},
		{"1", "", false},
		{"a ", "", false},
	} {
		if got, found := token.Get(list, c.name); got != c.want || found != c.found {
			t.Errorf("Get(%q) = %q, %v, want %q, %v", c.name, got, found, c.want, c.found)
		}
		x := token.Token{Kind: token.End, Attrs: list}
		if got, found := x.Get(c.name); got != c.want || found != c.found {
			t.Errorf("a token's Get(%q) = %q, %v, want %q, %v", c.name, got, found, c.want, c.found)
		}
	}
	for _, none := range [][]token.Attr{nil, {}} {
		if got, found := token.Get(none, ""); got != "" || found {
			t.Error("Get of no attributes finds one")
		}
	}
	if got, found := (token.Token{Name: "a", Data: "a"}).Get("a"); got != "" || found {
		t.Error("Get of a token without attributes finds one")
	}
}

func TestSet(t *testing.T) {
	for _, c := range []struct{ list, want []token.Attr }{
		{nil, attrs("a", "x")},
		{attrs(), attrs("a", "x")},
		{attrs("a", "1"), attrs("a", "x")},
		{attrs("a", "x"), attrs("a", "x")},
		{attrs("b", "1"), attrs("b", "1", "a", "x")},
		{attrs("A", "1", "", ""), attrs("A", "1", "", "", "a", "x")},
		{attrs("b", "1", "a", "2", "c", "3", "a", "4"), attrs("b", "1", "a", "x", "c", "3", "a", "4")},
	} {
		if got := token.Set(c.list, "a", "x"); !slices.Equal(got, c.want) {
			t.Errorf("Set(%v) = %v, want %v", c.list, got, c.want)
		}
	}
	if got := token.Set(attrs("", "1"), "", ""); !slices.Equal(got, attrs("", "")) {
		t.Errorf("Set of the empty name: %v", got)
	}
}

func TestWithout(t *testing.T) {
	for _, c := range []struct{ list, want []token.Attr }{
		{nil, nil},
		{attrs("a", "1"), nil},
		{attrs("a", "1", "a", "2"), nil},
		{attrs("A", "1"), attrs("A", "1")},
		{attrs("b", "a", "", "a"), attrs("b", "a", "", "a")},
		{attrs("a", "1", "b", "2", "a", "3", "c", "4", "a", "5", "b", "6"), attrs("b", "2", "c", "4", "b", "6")},
	} {
		if got := token.Without(c.list, "a"); !slices.Equal(got, c.want) {
			t.Errorf("Without(%v) = %v, want %v", c.list, got, c.want)
		}
	}
	if got := token.Without(attrs("", "1", "a", "2"), ""); !slices.Equal(got, attrs("a", "2")) {
		t.Errorf("Without the empty name: %v", got)
	}
}

func TestOnce(t *testing.T) {
	for _, c := range []struct{ list, want []token.Attr }{
		{nil, nil},
		{attrs("a", "1"), attrs("a", "1")},
		{attrs("a", "1", "a", "1"), attrs("a", "1")},
		{attrs("a", "1", "A", "2", "", "3"), attrs("a", "1", "A", "2", "", "3")},
		{attrs("b", "1", "a", "2", "b", "3", "", "4", "a", "5", "c", "6", "", "7", "b", "8"), attrs("b", "1", "a", "2", "", "4", "c", "6")},
	} {
		if got := token.Once(c.list); !slices.Equal(got, c.want) {
			t.Errorf("Once(%v) = %v, want %v", c.list, got, c.want)
		}
	}
}

func TestAlike(t *testing.T) {
	for _, c := range []struct {
		a, b []token.Attr
		want bool
	}{
		{nil, nil, true},
		{nil, []token.Attr{}, true},
		{attrs("a", "1"), nil, false},
		{nil, attrs("a", "1"), false},
		{attrs("a", "1"), attrs("a", "1"), true},
		{attrs("a", "1"), attrs("a", "2"), false},
		{attrs("a", "1"), attrs("b", "1"), false},
		{attrs("a", "1"), attrs("A", "1"), false},
		{attrs("a", ""), attrs("b", ""), false},
		{attrs("a", "1", "b", "2"), attrs("b", "2", "a", "1"), true},
		{attrs("a", "1", "b", "2"), attrs("b", "1", "a", "2"), false},
		{attrs("a", "1"), attrs("a", "1", "b", "2"), false},
		{attrs("a", "1", "b", "2"), attrs("a", "1"), false},
		// Only the first attribute of a name counts in b, and every one in a.
		{attrs("a", "1", "a", "1"), attrs("a", "1", "b", "2"), true},
		{attrs("a", "1", "b", "2"), attrs("a", "1", "a", "1"), false},
		{attrs("a", "1", "a", "2"), attrs("a", "1", "a", "2"), false},
		{attrs("a", "1", "a", "1"), attrs("a", "1", "a", "2"), true},
		{attrs("a", "2", "a", "2"), attrs("a", "1", "a", "2"), false},
	} {
		if got := token.Alike(c.a, c.b); got != c.want {
			t.Errorf("Alike(%v, %v) = %v", c.a, c.b, got)
		}
	}
}

// alike is what the document says of Alike, word by word.
func alike(a, b []token.Attr) bool {
	for _, x := range a {
		if v, found := token.Get(b, x.Name); !found || v != x.Val {
			return false
		}
	}
	return len(a) == len(b)
}

func TestListsAgainstTheirWords(t *testing.T) {
	r := rand.New(rand.NewSource(7))
	list := func() []token.Attr {
		out := make([]token.Attr, r.Intn(6))
		for i := range out {
			out[i] = token.Attr{Name: "abc"[:r.Intn(4)], Val: "xy"[:r.Intn(2)]}
		}
		return out
	}
	for range 20000 {
		a, b := list(), list()
		if got, want := token.Alike(a, b), alike(a, b); got != want {
			t.Fatalf("Alike(%v, %v) = %v", a, b, got)
		}
		var once []token.Attr
		for _, x := range a {
			if _, found := token.Get(once, x.Name); !found {
				once = append(once, x)
			}
		}
		if got := token.Once(a); !slices.Equal(got, once) {
			t.Fatalf("Once(%v) = %v", a, got)
		}
	}
}

func TestListsAreNew(t *testing.T) {
	list := make([]token.Attr, 0, 8)
	list = append(list, attrs("a", "1", "b", "2", "a", "3")...)
	kept := slices.Clone(list[:cap(list)])
	for name, made := range map[string]func() []token.Attr{
		"Set of one that is there": func() []token.Attr { return token.Set(list, "b", "x") },
		"Set of a new one":         func() []token.Attr { return token.Set(list, "c", "x") },
		"Without":                  func() []token.Attr { return token.Without(list, "a") },
		"Without one that lacks":   func() []token.Attr { return token.Without(list, "c") },
		"Once":                     func() []token.Attr { return token.Once(list) },
		"Once of a list of one":    func() []token.Attr { return token.Once(list[:1]) },
	} {
		got := made()
		if !slices.Equal(list[:cap(list)], kept) {
			t.Fatalf("%s changes its argument, or what is behind it", name)
		}
		got = got[:cap(got)]
		for i := range got {
			got[i] = token.Attr{Name: "spoilt"}
		}
		if !slices.Equal(list[:cap(list)], kept) {
			t.Fatalf("%s shares memory with its argument", name)
		}
	}
}

func TestManyAttributes(t *testing.T) {
	list := numbered(200000)
	back := slices.Clone(list)
	slices.Reverse(back)
	if !token.Alike(list, back) || len(token.Once(slices.Concat(list, back))) != len(list) {
		t.Error("many attributes")
	}
	back[0].Val = "other"
	if token.Alike(list, back) {
		t.Error("many attributes, one of them other")
	}
}
