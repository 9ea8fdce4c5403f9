package token_test

import (
	"slices"
	"strings"
	"testing"

	"woodcut/token"
)

// P7.2: Is

func TestKindsAreNumbered(t *testing.T) {
	if token.Text != 1 || token.Start != 2 || token.End != 3 || token.Comment != 4 || token.Doctype != 5 {
		t.Error("the kinds")
	}
}

func TestIs(t *testing.T) {
	p := token.Token{Kind: token.Start, Name: "p", Data: "q"}
	for _, c := range []struct {
		kind  int
		names []string
		want  bool
	}{
		{token.Start, []string{"p"}, true},
		{token.Start, []string{"a", "b", "p"}, true},
		{token.Start, []string{"p", "a"}, true},
		{token.Start, []string{"a", "b"}, false},
		{token.Start, nil, false},
		{token.Start, []string{""}, false},
		{token.Start, []string{"P"}, false},
		{token.Start, []string{"q"}, false},
		{token.End, []string{"p"}, false},
		{0, []string{"p"}, false},
		{-1, []string{"p"}, false},
	} {
		if got := p.Is(c.kind, c.names...); got != c.want {
			t.Errorf("Is(%d, %q) = %v", c.kind, c.names, got)
		}
	}
	text := token.Token{Kind: token.Text, Data: "p"}
	if text.Is(token.Text, "p") || text.Is(token.Text) || !text.Is(token.Text, "p", "") {
		t.Error("a text has no name but the empty one")
	}
	if (token.Token{}).Is(0) || !(token.Token{}).Is(0, "") {
		t.Error("the zero token")
	}
	if !(token.Token{Kind: token.Doctype, Name: "html"}).Is(token.Doctype, "html") {
		t.Error("a doctype")
	}
}

// P7.2: Same

func full() token.Token {
	return token.Token{Kind: token.Start, Name: "n", Attrs: attrs("a", "1", "b", "2"), Self: true, Data: "d",
		Public: "p", System: "s", HasPub: true, HasSys: true, Quirks: true}
}

func TestSame(t *testing.T) {
	if !full().Same(full()) || !(token.Token{}).Same(token.Token{}) || full().Same(token.Token{}) {
		t.Error("Same of the same")
	}
	for name, change := range map[string]func(x *token.Token){
		"Kind":                func(x *token.Token) { x.Kind = token.End },
		"Name":                func(x *token.Token) { x.Name = "N" },
		"Self":                func(x *token.Token) { x.Self = false },
		"Data":                func(x *token.Token) { x.Data = "" },
		"Public":              func(x *token.Token) { x.Public = "s" },
		"System":              func(x *token.Token) { x.System = "p" },
		"HasPub":              func(x *token.Token) { x.HasPub = false },
		"HasSys":              func(x *token.Token) { x.HasSys = false },
		"Quirks":              func(x *token.Token) { x.Quirks = false },
		"no Attrs":            func(x *token.Token) { x.Attrs = nil },
		"fewer Attrs":         func(x *token.Token) { x.Attrs = x.Attrs[:1] },
		"more Attrs":          func(x *token.Token) { x.Attrs = append(x.Attrs, token.Attr{}) },
		"Attrs in turn":       func(x *token.Token) { slices.Reverse(x.Attrs) },
		"an attribute's name": func(x *token.Token) { x.Attrs[1].Name = "c" },
		"an attribute's val":  func(x *token.Token) { x.Attrs[1].Val = "" },
	} {
		x := full()
		change(&x)
		if x.Same(full()) || full().Same(x) {
			t.Errorf("%s doesn't matter", name)
		}
		if !x.Same(x) {
			t.Errorf("%s: a token isn't the same as itself", name)
		}
	}
	if !(token.Token{Attrs: []token.Attr{}}).Same(token.Token{}) {
		t.Error("no attributes, and an empty list of them")
	}
}

// P7.2: Join

func text(s string) token.Token { return token.Token{Kind: token.Text, Data: s} }

func TestJoin(t *testing.T) {
	tag := full()
	note := token.Token{Kind: token.Comment, Data: "c"}
	blank := token.Token{Kind: token.Comment}
	zero := token.Token{}
	for _, c := range []struct {
		name       string
		list, want []token.Token
	}{
		{"nothing", nil, nil},
		{"a and b", []token.Token{text("a"), text("b")}, []token.Token{text("ab")}},
		{"one", []token.Token{text("a")}, []token.Token{text("a")}},
		{"an empty one", []token.Token{text("")}, nil},
		{"empty ones", []token.Token{text(""), text(""), text("")}, nil},
		{"empty ones between", []token.Token{text(""), text("a"), text(""), text("b"), text("")}, []token.Token{text("ab")}},
		{"no texts", []token.Token{tag, note, tag}, []token.Token{tag, note, tag}},
		{"an empty one between tags", []token.Token{tag, text(""), tag}, []token.Token{tag, tag}},
		{"texts apart", []token.Token{text("a"), tag, text("b")}, []token.Token{text("a"), tag, text("b")}},
		{"a comment parts them, an empty one too", []token.Token{text("a"), blank, text("b"), note, text("c")},
			[]token.Token{text("a"), blank, text("b"), note, text("c")}},
		{"runs", []token.Token{text("a"), text("b"), tag, text(""), note, text("c"), text(""), text("d"), tag},
			[]token.Token{text("ab"), tag, note, text("cd"), tag}},
		{"comments aren't joined", []token.Token{note, note}, []token.Token{note, note}},
		{"a token of no kind", []token.Token{text("a"), zero, text("b")}, []token.Token{text("a"), zero, text("b")}},
	} {
		if got := token.Join(c.list); !slices.EqualFunc(got, c.want, token.Token.Same) {
			t.Errorf("%s: %v, want %v", c.name, got, c.want)
		}
	}
}

func TestJoinIsNew(t *testing.T) {
	shared := attrs("a", "1", "b", "2")
	list := []token.Token{{Kind: token.Start, Attrs: shared}, text("a"), text("b"), {Kind: token.End, Attrs: shared[:1]}}
	got := token.Join(list)
	if list[1].Data != "a" || list[2].Data != "b" || len(list) != 4 {
		t.Error("Join changes its argument")
	}
	got[0].Attrs[0].Val = "x"
	if shared[0].Val != "1" || got[2].Attrs[0].Val != "1" {
		t.Error("Join shares attributes")
	}
	got[1].Data = "x"
	got[0].Name = "x"
	if list[0].Name != "" || list[1].Data != "a" {
		t.Error("Join shares tokens")
	}
}

func TestJoinManyTexts(t *testing.T) {
	list := slices.Repeat([]token.Token{text("ab")}, 200000)
	got := token.Join(list)
	if len(got) != 1 || got[0].Data != strings.Repeat("ab", 200000) {
		t.Error("many texts")
	}
}
