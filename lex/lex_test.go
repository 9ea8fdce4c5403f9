package lex_test

import (
	"bytes"
	"slices"
	"strings"
	"testing"

	"woodcut/lex"
	"woodcut/token"
)

// P9.1

func TestNewReadsCharacters(t *testing.T) {
	check(t, []reading{
		{"", nil},
		{"\ufeff", nil},
		{"\ufeffa", list(text("a"))},
		{"a\r\nb\rc\n", list(text("a\nb\nc\n"))},
		{"\xe2\x82A<p\xff>", list(text("\ufffdA"), start("p\ufffd"))},
		{"<p a='\r\n'><!--\r-->", list(start("p", "a", "\n"), comment("\n"))},
	})
}

func TestNewKeepsNothingOfItsArgument(t *testing.T) {
	b := []byte("<a b=c>d")
	l := lex.New(b)
	copy(b, "xxxxxxxx")
	if got := read(l); !same(got, list(start("a", "b", "c"), text("d"))) {
		t.Errorf("%+v", got)
	}
	b = []byte("<a B='&amp;\x00'>\r\n\x00</A>")
	kept := bytes.Clone(b)
	lex.All(b)
	if !bytes.Equal(b, kept) {
		t.Errorf("changed to %q", b)
	}
}

func TestNext(t *testing.T) {
	l := lex.New([]byte("<a></a><!---->"))
	for i, want := range list(start("a"), end("a"), comment("")) {
		if got, found := l.Next(); !found || !got.Same(want) {
			t.Errorf("%d: %+v, %v", i, got, found)
		}
	}
	for range 3 {
		if got, found := l.Next(); found || !got.Same(token.Token{}) {
			t.Errorf("at the end: %+v, %v", got, found)
		}
	}
}

func TestNextAtTheEndOfWhatLeavesNothing(t *testing.T) {
	for _, s := range []string{"", "</>", "</></>", "<a", "</a ", "<a b='", "<a/"} {
		l := lex.New([]byte(s))
		for range 2 {
			if got, found := l.Next(); found || !got.Same(token.Token{}) {
				t.Errorf("%q: %+v, %v", s, got, found)
			}
		}
	}
}

func TestTextsAreNeverEmpty(t *testing.T) {
	const s = "</>a</></><b></b></></b>&amp;<![CDATA[]]><![CDATA[c]]><![CDATA["
	l := lex.New([]byte(s))
	l.Sections(true)
	var got []token.Token
	for tk := range l.Tokens() {
		if tk.Kind == token.Text && tk.Data == "" {
			t.Error("an empty text")
		}
		got = append(got, tk)
	}
	if want := list(text("a"), start("b"), end("b"), end("b"), text("&c")); !same(token.Join(got), want) {
		t.Errorf("%+v", got)
	}
}

func TestNilLexer(t *testing.T) {
	var l *lex.Lexer
	l.Way(lex.RCData, "title")
	l.Sections(true)
	if got, found := l.Next(); found || !got.Same(token.Token{}) {
		t.Errorf("%+v, %v", got, found)
	}
	for got := range l.Tokens() {
		t.Errorf("%+v", got)
	}
}

func TestLexerNotMadeByNew(t *testing.T) {
	var l lex.Lexer
	l.Way(lex.Script, "script")
	if got, found := l.Next(); found {
		t.Errorf("%+v", got)
	}
}

func TestTokensMayBeLeftAndUsedAgain(t *testing.T) {
	l := lex.New([]byte("<a><b><c><d>"))
	tokens := l.Tokens()
	for got := range tokens {
		if !got.Same(start("a")) {
			t.Errorf("%+v", got)
		}
		break
	}
	if got, found := l.Next(); !found || !got.Same(start("b")) {
		t.Errorf("%+v, %v", got, found)
	}
	if got := slices.Collect(tokens); !same(got, list(start("c"), start("d"))) {
		t.Errorf("%+v", got)
	}
	for got := range tokens {
		t.Errorf("at the end: %+v", got)
	}
}

func TestWayBetweenTokens(t *testing.T) {
	l := lex.New([]byte("<title><b>&amp;</title><b>&amp;<style><b>&amp;</style><plaintext></plaintext><b>"))
	ways := map[string]int{"title": lex.RCData, "style": lex.RawText, "plaintext": lex.Plain}
	var got []token.Token
	for tk := range l.Tokens() {
		got = append(got, tk)
		if way := ways[tk.Name]; way != lex.Data && tk.Kind == token.Start {
			l.Way(way, tk.Name)
		}
	}
	want := list(start("title"), text("<b>&"), end("title"), start("b"), text("&"),
		start("style"), text("<b>&amp;"), end("style"), start("plaintext"), text("</plaintext><b>"))
	if got = token.Join(got); !same(got, want) {
		t.Errorf("%+v", got)
	}
}

func TestWayBackToData(t *testing.T) {
	l := in("<b>&amp;", lex.RawText, "style")
	l.Way(lex.Data, "")
	if got := read(l); !same(got, list(start("b"), text("&"))) {
		t.Errorf("%+v", got)
	}
}

func TestWayThatThereIsNot(t *testing.T) {
	for _, way := range []int{-1 << 63, -1, lex.Plain + 1, 1<<63 - 1} {
		if got := read(in("<b>&amp;", way, "b")); !same(got, list(start("b"), text("&"))) {
			t.Errorf("%d: %+v", way, got)
		}
		l := in("<b></i></b>", lex.RawText, "b")
		l.Way(way, "i")
		if got := read(l); !same(got, list(text("<b></i>"), end("b"))) {
			t.Errorf("%d behind another: %+v", way, got)
		}
	}
}

func TestSectionsAtFirstAndInTurn(t *testing.T) {
	l := lex.New([]byte("<![CDATA[a]]><![CDATA[b]]><![CDATA[c]]><![CDATA[d]]>"))
	var got []token.Token
	for _, may := range []bool{false, true, true, false} {
		if may || len(got) > 0 {
			l.Sections(may)
		}
		tk, _ := l.Next()
		got = append(got, tk)
	}
	if !same(got, list(comment("[CDATA[a]]"), text("b"), text("c"), comment("[CDATA[d]]"))) {
		t.Errorf("%+v", got)
	}
}

func TestAllJoins(t *testing.T) {
	check(t, []reading{
		{"a</>b</></>c", list(text("abc"))},
		{"a<b<", list(text("a"))},
		{"<a b=c&amp;d>", list(start("a", "b", "c&d"))},
	})
	for _, s := range []string{"a&b<c>d<!e>f", "<script><b></script>", "<![CDATA[x]]>"} {
		if got, want := lex.All([]byte(s)), read(lex.New([]byte(s))); !same(got, want) {
			t.Errorf("%q: %+v, want %+v", s, got, want)
		}
	}
	if got := lex.All(nil); len(got) != 0 {
		t.Errorf("of nothing: %+v", got)
	}
}

func TestAnswersAreNew(t *testing.T) {
	l := lex.New([]byte("<a b=c><a b=c>"))
	first, _ := l.Next()
	first.Attrs = append(first.Attrs[:0], token.Attr{Name: "spoilt"})
	if second, _ := l.Next(); !second.Same(start("a", "b", "c")) {
		t.Errorf("%+v", second)
	}
}

func TestLongInputsEndSoon(t *testing.T) {
	for _, part := range []string{
		"<", "</", "</a", "<a ", "<a b=", "<a b='", "<!", "<!--", "<!doctype a ", "<!doctype a public '", "<![CDATA[",
		"&", "&#", "&#x", "&#1", "&amp", "<script>", "<!--<script>", "<!--<script></script>", "-", "--!", "]]", "<?", "</>", "a=", "\x00",
	} {
		s := strings.Repeat(part, 100000)
		for way := lex.Data; way <= lex.Plain; way++ {
			l := in(s, way, "a")
			l.Sections(true)
			for range l.Tokens() {
			}
		}
	}
}
