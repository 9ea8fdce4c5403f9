package lex_test

import (
	"testing"

	"woodcut/chars"
	"woodcut/lex"
)

// P9.4

// references is what stands for what in texts and values alike.
var references = []struct{ in, want string }{
	{"&amp;", "&"},
	{"&amp;lt;", "&lt;"},
	{"&amp;#65;", "&#65;"},
	{"&lt;&gt;", "<>"},
	{"&notin;", "\u2209"},
	{"&not;in;", "\u00acin;"},
	{"&nvlt;", "<\u20d2"},
	{"&nvlt", "&nvlt"},
	{"&euro", "&euro"},
	{"&euro;", "\u20ac"},
	{"&amp", "&"},
	{"&amp-", "&-"},
	{"&amp&amp", "&&"},
	{"&ampé", "&é"},
	{"&copy;=1", "\u00a9=1"},
	{"&&amp;", "&&"},
	{"&", "&"},
	{"&;", "&;"},
	{"&-a", "&-a"},
	{"&x;", "&x;"},
	{"&AMp;", "&AMp;"},
	{"&Amp;", "&Amp;"},
	{"&AMP;", "&"},
	{"&#65;", "A"},
	{"&#65", "A"},
	{"&#65=", "A="},
	{"&#65a", "Aa"},
	{"&#x41;", "A"},
	{"&#X41;", "A"},
	{"&#x41g", "Ag"},
	{"&#x4a;&#X4A", "JJ"},
	{"&#65;;", "A;"},
	{"&#0065;", "A"},
	{"&#", "&#"},
	{"&#;", "&#;"},
	{"&#a", "&#a"},
	{"&#x", "&#x"},
	{"&#x;", "&#x;"},
	{"&#xg", "&#xg"},
	{"&#xx41;", "&#xx41;"},
	{"&#-1;", "&#-1;"},
	{"&##65;", "&##65;"},
	{"&#&#65;", "&#A"},
	{"&#x&amp;", "&#x&"},
	{"&#0;", "\ufffd"},
	{"&#128;", "\u20ac"},
	{"&#x80;", "\u20ac"},
	{"&#159;", "\u0178"},
	{"&#xd800;", "\ufffd"},
	{"&#x10ffff;", "\U0010ffff"},
	{"&#x110000;", "\ufffd"},
	{"&#99999999999999999999;", "\ufffd"},
	{"&#13;", "\r"},
}

// checkForms lays a text into texts and into values.
func checkForms(t *testing.T, s, inText, inValue string) {
	t.Helper()
	check(t, []reading{
		{s, list(text(inText))},
		{s + "<b>", list(text(inText), start("b"))},
		{"<a b='" + s + "'>", list(start("a", "b", inValue))},
		{"<a b=\"" + s + "\">", list(start("a", "b", inValue))},
		{"<a b=" + s + ">", list(start("a", "b", inValue))},
		{"<a b=" + s + " c>", list(start("a", "b", inValue, "c", ""))},
	})
	for _, behind := range []string{"", "</title>"} {
		got := read(in(s+behind, lex.RCData, "title"))
		if len(got) == 0 || !got[0].Same(text(inText)) {
			t.Errorf("%q in RCData: %+v", s+behind, got)
		}
	}
}

func TestReferences(t *testing.T) {
	for _, c := range references {
		checkForms(t, c.in, c.want, c.want)
	}
}

func TestReferencesInValuesWithoutSemicolon(t *testing.T) {
	for _, c := range []struct{ in, inText string }{
		{"&amp=", "&="},
		{"&ampa", "&a"},
		{"&ampZ", "&Z"},
		{"&amp0", "&0"},
		{"&amp9", "&9"},
		{"&notit;", "\u00acit;"},
		{"&notin", "\u00acin"},
		{"&copy=1&reg=2", "\u00a9=1\u00ae=2"},
		{"?a&lt=b", "?a<=b"},
	} {
		checkForms(t, c.in, c.inText, c.in)
	}
	checkForms(t, "&ampamp;", "&amp;", "&ampamp;")
	checkForms(t, "&ampa&amp;", "&a&", "&ampa&")
}

func TestReferencesOfEveryName(t *testing.T) {
	for _, e := range chars.Names() {
		signs, _, _ := chars.Match([]rune(e.Name + ";"))
		checkForms(t, "&"+e.Name+";x", string(signs)+"x", string(signs)+"x")
	}
}

func TestNoReferences(t *testing.T) {
	check(t, []reading{
		{"<!--&amp;&#65;-->", list(comment("&amp;&#65;"))},
		{"<!&amp;>", list(comment("&amp;"))},
		{"<a&amp; &amp;>", list(start("a&amp;", "&amp;", ""))},
		{"<!doctype &amp; system '&amp;'>", list(system(doctype("&amp;"), "&amp;"))},
		{"&am</>p;", list(text("&amp;"))},
	})
	for _, way := range []int{lex.RawText, lex.Script, lex.Plain} {
		if got := read(in("&amp;&#65;&lt", way, "b")); !same(got, list(text("&amp;&#65;&lt"))) {
			t.Errorf("%d: %+v", way, got)
		}
	}
}
