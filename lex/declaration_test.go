package lex_test

import (
	"testing"

	"woodcut/lex"
	"woodcut/token"
)

// P9.5

func TestComment(t *testing.T) {
	check(t, []reading{
		{"<!--a-->b", list(comment("a"), text("b"))},
		{"<!---->b", list(comment(""), text("b"))},
		{"<!-->b", list(comment(""), text("b"))},
		{"<!--->b", list(comment(""), text("b"))},
		{"<!----->b", list(comment("-"), text("b"))},
		{"<!----!>b", list(comment(""), text("b"))},
		{"<!--!>b-->", list(comment("!>b"))},
		{"<!---!>b-->", list(comment("-!>b"))},
		{"<!--a--!>b", list(comment("a"), text("b"))},
		{"<!--a--!b-->c", list(comment("a--!b"), text("c"))},
		{"<!--a--!-->c", list(comment("a--!"), text("c"))},
		{"<!--a--->c", list(comment("a-"), text("c"))},
		{"<!--a---!>c", list(comment("a-"), text("c"))},
		{"<!--a--b->c-->", list(comment("a--b->c"))},
		{"<!--a-- >b-->", list(comment("a-- >b"))},
		{"<!-- <!-- -->b-->", list(comment(" <!-- "), text("b-->"))},
		{"<!--<!-->b", list(comment("<!"), text("b"))},
		{"<!--<a b='-->'>", list(comment("<a b='"), text("'>"))},
		{"<!--A\x00B\n-->", list(comment("A\ufffdB\n"))},
		{"<!-- a -->", list(comment(" a "))},
	})
}

func TestCommentAtTheEnd(t *testing.T) {
	check(t, []reading{
		{"<!--", list(comment(""))},
		{"<!---", list(comment(""))},
		{"<!----", list(comment(""))},
		{"<!-----", list(comment("-"))},
		{"<!--a", list(comment("a"))},
		{"<!--a-", list(comment("a"))},
		{"<!--a--", list(comment("a"))},
		{"<!--a---", list(comment("a-"))},
		{"<!--a--!", list(comment("a"))},
		{"<!--a---!", list(comment("a-"))},
		{"<!--a-!", list(comment("a-!"))},
		{"<!--a!", list(comment("a!"))},
		{"<!--a--!-", list(comment("a--!"))},
		{"<!--a--!--!", list(comment("a--!"))},
		{"<!----!", list(comment(""))},
		{"<!--!", list(comment("!"))},
		{"<!---!", list(comment("-!"))},
		{"<!--a<b>", list(comment("a<b>"))},
		// Only an end that lacks is cut.
		{"<!--a----->", list(comment("a---"))},
	})
}

func TestOtherDeclarations(t *testing.T) {
	check(t, []reading{
		{"<!", list(comment(""))},
		{"<!>a", list(comment(""), text("a"))},
		{"<!a>b", list(comment("a"), text("b"))},
		{"<!-", list(comment("-"))},
		{"<!->a", list(comment("-"), text("a"))},
		{"<!-a-->b", list(comment("-a--"), text("b"))},
		{"<! -- a>b", list(comment(" -- a"), text("b"))},
		{"<!DocTyp>", list(comment("DocTyp"))},
		{"<! doctype html>", list(comment(" doctype html"))},
		{"<!\x00>", list(comment("\ufffd"))},
		{"<!ELEMENT a '>'>", list(comment("ELEMENT a '"), text("'>"))},
		{"<!/a>", list(comment("/a"))},
	})
}

func TestDoctypeIsTakenInAnyCase(t *testing.T) {
	for _, word := range []string{"doctype", "DOCTYPE", "DocType", "dOCTYPe"} {
		check(t, []reading{{"<!" + word + " a>", list(doctype("a"))}, {"<!" + word + "a>", list(doctype("a"))}})
	}
}

func sections(s string) *lex.Lexer {
	l := lex.New([]byte(s))
	l.Sections(true)
	return l
}

func TestSections(t *testing.T) {
	for _, c := range []reading{
		{"<![CDATA[a]]>b", list(text("ab"))},
		{"<![CDATA[]]>", nil},
		{"<![CDATA[", nil},
		{"<p><![CDATA[]]></p>", list(start("p"), end("p"))},
		{"<![CDATA[a", list(text("a"))},
		{"<![CDATA[a]", list(text("a]"))},
		{"<![CDATA[a]]", list(text("a]]"))},
		{"<![CDATA[a]]]>b", list(text("a]b"))},
		{"<![CDATA[]]]]>", list(text("]]"))},
		{"<![CDATA[a] ]>b>]]>c", list(text("a] ]>b>c"))},
		{"<![CDATA[<b>&amp;</b><!--]]>-->", list(text("<b>&amp;</b><!---->"))},
		{"<![CDATA[<![CDATA[a]]>]]>", list(text("<![CDATA[a]]>"))},
		{"a\x00<![CDATA[\x00b\x00]]>\x00", list(text("a\x00\x00b\x00\x00"))},
		{"<![cdata[a]]>", list(comment("[cdata[a]]"))},
		{"<![CDATa[a]]>", list(comment("[CDATa[a]]"))},
		{"<![CDATA a]]>", list(comment("[CDATA a]]"))},
		{"<![CDATA", list(comment("[CDATA"))},
		{"<! [CDATA[a]]>", list(comment(" [CDATA[a]]"))},
		{"<a b='<![CDATA[c]]>'>", list(start("a", "b", "<![CDATA[c]]>"))},
		{"<!--<![CDATA[-->", list(comment("<![CDATA["))},
	} {
		if got := read(sections(c.in)); !same(got, c.want) {
			t.Errorf("%q:\n got %+v\nwant %+v", c.in, got, c.want)
		}
	}
}

func TestSectionsThatMayNotBe(t *testing.T) {
	check(t, []reading{
		{"<![CDATA[a]]>b", list(comment("[CDATA[a]]"), text("b"))},
		{"<![CDATA[a>b]]>", list(comment("[CDATA[a"), text("b]]>"))},
		{"<![CDATA[\x00", list(comment("[CDATA[\ufffd"))},
	})
	l := sections("<![CDATA[a]]>")
	l.Sections(false)
	if got := read(l); !same(got, list(comment("[CDATA[a]]"))) {
		t.Errorf("%+v", got)
	}
}

// P9.6

func TestDoctype(t *testing.T) {
	check(t, []reading{
		{"<!doctype html>a", list(doctype("html"), text("a"))},
		{"<!DOCTYPE HTML  >a", list(doctype("html"), text("a"))},
		{"<!doctype\n\tHtml\n>", list(doctype("html"))},
		{"<!doctypehtml>", list(doctype("html"))},
		{"<!doctype a/b'c\"d<e=f>", list(doctype("a/b'c\"d<e=f"))},
		{"<!doctype É\x00>", list(doctype("É\ufffd"))},
		{"<!doctype \x00>", list(doctype("\ufffd"))},
		{"<!doctype public>", list(doctype("public"))},
		{"<!doctype>a", list(quirks(doctype("")), text("a"))},
		{"<!doctype >a", list(quirks(doctype("")), text("a"))},
		{"<!doctype", list(quirks(doctype("")))},
		{"<!doctype \n", list(quirks(doctype("")))},
		{"<!doctype a", list(quirks(doctype("a")))},
		{"<!doctype a ", list(quirks(doctype("a")))},
		{"<!doctype a b>c", list(quirks(doctype("a")), text("c"))},
		{"<!doctype a b", list(quirks(doctype("a")))},
		{"<!doctype a 'b>c'>", list(quirks(doctype("a")), text("c'>"))},
		{"<!doctype a publi 'p'>", list(quirks(doctype("a")))},
		{"<!doctype a x public 'p'>", list(quirks(doctype("a")))},
		{"<!doctype a ſystem 's'>", list(quirks(doctype("a")))},
	})
}

func TestDoctypePublic(t *testing.T) {
	a := doctype("a")
	p := public(a, "P x")
	check(t, []reading{
		{"<!doctype a public 'P x'>b", list(p, text("b"))},
		{"<!doctype a PUBLIC \"P x\" >b", list(p, text("b"))},
		{"<!doctype a pUbLiC'P x'>b", list(p, text("b"))},
		{"<!doctype a public\n'P x'\n>b", list(p, text("b"))},
		{"<!doctype a public ''>", list(public(a, ""))},
		{"<!doctype a public '\"\x00<'>", list(public(a, "\"\ufffd<"))},
		{"<!doctype a public>b", list(quirks(a), text("b"))},
		{"<!doctype a public >b", list(quirks(a), text("b"))},
		{"<!doctype a public", list(quirks(a))},
		{"<!doctype a public ", list(quirks(a))},
		{"<!doctype a public p 'P x'>b", list(quirks(a), text("b"))},
		{"<!doctype a publicx 'P x'>b", list(quirks(a), text("b"))},
		{"<!doctype a public system 's'>b", list(quirks(a), text("b"))},
		{"<!doctype a public 'P x>b", list(quirks(p), text("b"))},
		{"<!doctype a public 'P x>'>b", list(quirks(p), text("'>b"))},
		{"<!doctype a public 'P x", list(quirks(p))},
		{"<!doctype a public '", list(quirks(public(a, "")))},
		{"<!doctype a public '>b", list(quirks(public(a, "")), text("b"))},
		{"<!doctype a public 'P x\">b", list(quirks(public(a, "P x\"")), text("b"))},
		{"<!doctype a public 'P x'", list(quirks(p))},
		{"<!doctype a public 'P x' ", list(quirks(p))},
		{"<!doctype a public 'P x' s>b", list(quirks(p), text("b"))},
		{"<!doctype a public 'P x' system 's'>b", list(quirks(p), text("b"))},
		{"<!doctype a public 'P x' s", list(quirks(p))},
	})
}

func TestDoctypeSystem(t *testing.T) {
	a := doctype("a")
	for _, front := range []struct {
		in   string
		want token.Token
	}{
		{"<!doctype a system", a},
		{"<!doctype a SYSTEM ", a},
		{"<!doctype a System\n", a},
		{"<!doctype a public 'p'", public(a, "p")},
		{"<!doctype a public \"p\" ", public(a, "p")},
	} {
		s := system(front.want, "S x")
		for _, c := range []reading{
			{"'S x'>b", list(s, text("b"))},
			{"\"S x\" >b", list(s, text("b"))},
			{"'S x' b 'c' \"d>e", list(s, text("e"))},
			{"'S x'b", list(s)},
			{"'S x' b", list(s)},
			{"'S x'", list(quirks(s))},
			{"'S x'\n", list(quirks(s))},
			{"''>", list(system(front.want, ""))},
			{"'\"\x00&amp;'>", list(system(front.want, "\"\ufffd&amp;"))},
			{"'S x>b'>", list(quirks(s), text("b'>"))},
			{"'S x", list(quirks(s))},
			{"'", list(quirks(system(front.want, "")))},
			{"'>b", list(quirks(system(front.want, "")), text("b"))},
			{"s 'S x'>b", list(quirks(front.want), text("b"))},
			{"s", list(quirks(front.want))},
			{"", list(quirks(front.want))},
		} {
			check(t, []reading{{front.in + c.in, c.want}})
		}
	}
	check(t, []reading{
		{"<!doctype a system>b", list(quirks(a), text("b"))},
		{"<!doctype a system >b", list(quirks(a), text("b"))},
		{"<!doctype a system 's' 't'>", list(system(a, "s"))},
	})
}
