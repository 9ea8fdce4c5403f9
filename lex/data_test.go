package lex_test

import (
	"testing"
)

// P9.2

func TestData(t *testing.T) {
	check(t, []reading{
		{"abc", list(text("abc"))},
		{"é\U0001f600", list(text("é\U0001f600"))},
		{"a > b / c ! ? \" ' =", list(text("a > b / c ! ? \" ' ="))},
		{"a\x00b", list(text("a\x00b"))},
		{"<\x00", list(text("<\x00"))},
	})
}

func TestLessThatIsText(t *testing.T) {
	check(t, []reading{
		{"<", list(text("<"))},
		{"a<", list(text("a<"))},
		{"<<", list(text("<<"))},
		{"< a>", list(text("< a>"))},
		{"<>", list(text("<>"))},
		{"<1>", list(text("<1>"))},
		{"<=", list(text("<="))},
		{"<\n/a>", list(text("<\n/a>"))},
		{"<é>", list(text("<é>"))},
		{"<\uff41>", list(text("<\uff41>"))},
		{"<@>", list(text("<@>"))},
		{"<[>", list(text("<[>"))},
		{"<`>", list(text("<`>"))},
		{"<{>", list(text("<{>"))},
		{"<&lt;a>", list(text("<<a>"))},
		{"&lt;a>", list(text("<a>"))},
		{"<<a>", list(text("<"), start("a"))},
	})
}

func TestSlash(t *testing.T) {
	check(t, []reading{
		{"</", list(text("</"))},
		{"a</", list(text("a</"))},
		{"</</", list(comment("</"))},
		{"</>", nil},
		{"a</>b", list(text("ab"))},
		{"</ a>b", list(comment(" a"), text("b"))},
		{"</1>b", list(comment("1"), text("b"))},
		{"</!--a-->b", list(comment("!--a--"), text("b"))},
		{"</?", list(comment("?"))},
		{"<//>b", list(comment("/"), text("b"))},
		{"</\x00a>", list(comment("\ufffda"))},
		{"</é", list(comment("é"))},
		{"</a>", list(end("a"))},
		{"</Z>", list(end("z"))},
		{"</@>", list(comment("@"))},
		{"</[>", list(comment("["))},
	})
}

func TestBogusComment(t *testing.T) {
	check(t, []reading{
		{"<?", list(comment("?"))},
		{"<?>a", list(comment("?"), text("a"))},
		{"<?xml version='1.0'?>a", list(comment("?xml version='1.0'?"), text("a"))},
		{"<?a'>'", list(comment("?a'"), text("'"))},
		{"<?a-->b", list(comment("?a--"), text("b"))},
		{"<?&amp;<b>", list(comment("?&amp;<b"))},
		{"<?\x00", list(comment("?\ufffd"))},
		{"<?A\n", list(comment("?A\n"))},
	})
}
