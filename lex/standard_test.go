package lex_test

import (
	"math/rand"
	"strings"
	"testing"

	"woodcut/lex"
	signs "woodcut/text"
	"woodcut/token"
)

// P9.1 to P9.7, held against the standard's tokenizer: the chapter says the same in other words.

// pieces are parts of texts that come close to markup.
var pieces = []string{
	"<", ">", "/", "!", "?", "-", "--", "-->", "--!>", "->", "<!--", "<!", "</", "/>", "=", "\"", "'", " ", "\n", "\r", "\f", "\x00", "\xff",
	"a", "B", "0", "\u00e9", "t", "<t>", "</t>", "</T ", "script", "<script", "</script", "<script>", "</script>", "<SCRIPT ", "</Script/",
	"&", "&amp", "&amp;", "&not", "in;", "it", "&#", "x", "X", "65", "4g", ";", "&nvlt;", "&lt",
	"<!doctype", "<!DOCTYPE ", "a ", "public", "PUBLIC ", "system", "System ", "[CDATA[", "<![CDATA[", "]]>", "]]", "]",
	"<a ", "b=", "b='", "<title>", "</title>", "<style>", "</style>", "<plaintext>",
}

// soon are pieces that a way of reading turns on, which come more often in it.
var soon = map[int][]string{
	lex.Data:    {"<a b=", "<a b='", "<!--", "<!doctype a ", "<!doctype a public '", "<!doctype a system \"", "&"},
	lex.RCData:  {"</", "</t", "t", ">", "&"},
	lex.RawText: {"</", "</t", "t", ">"},
	lex.Script:  {"<!--", "<script", "</script", ">", "-", "</t", " "},
	lex.Plain:   {"<"},
}

func randomText(r *rand.Rand, way int) string {
	var s strings.Builder
	for range r.Intn(14) {
		if r.Intn(3) == 0 {
			s.WriteString(soon[way][r.Intn(len(soon[way]))])
			continue
		}
		s.WriteString(pieces[r.Intn(len(pieces))])
	}
	return s.String()
}

// byLexer reads as a page's reader would, which asks for other ways behind some tags.
func byLexer(s string, way int, name string, sections bool, switches map[string]int) []token.Token {
	l := in(s, way, name)
	l.Sections(sections)
	var got []token.Token
	for t := range l.Tokens() {
		got = append(got, t)
		if next := switches[t.Name]; next != lex.Data && t.Kind == token.Start {
			l.Way(next, t.Name)
		}
	}
	return token.Join(got)
}

func TestAgainstTheStandard(t *testing.T) {
	r := rand.New(rand.NewSource(9))
	switches := map[string]int{"title": lex.RCData, "style": lex.RawText, "script": lex.Script, "plaintext": lex.Plain}
	for i := range 200000 {
		way := i % (lex.Plain + 1)
		name, sections := "t", r.Intn(2) == 0
		if r.Intn(2) == 0 {
			name = "script"
		}
		s := randomText(r, way)
		m := machine{rs: signs.Decode([]byte(s)), state: states()[way], last: name, sections: sections, switches: switches}
		if got, want := byLexer(s, way, name, sections, switches), m.run(); !same(got, want) {
			t.Fatalf("way %d, %s, sections %v, %q:\n got %+v\nwant %+v", way, name, sections, s, got, want)
		}
	}
}
