package lex_test

import (
	"strconv"
	"strings"
	"testing"

	"woodcut/lex"
)

// P9.3

func TestTagName(t *testing.T) {
	check(t, []reading{
		{"<a>", list(start("a"))},
		{"<DIV>", list(start("div"))},
		{"</DIV>", list(end("div"))},
		{"<h1>", list(start("h1"))},
		{"<a-B:c.d_e>", list(start("a-b:c.d_e"))},
		{"<a<b>", list(start("a<b"))},
		{"<a=b\"c'>", list(start("a=b\"c'"))},
		{"<a&amp;>", list(start("a&amp;"))},
		{"<aÉK\u212a>", list(start("aÉk\u212a"))},
		{"<a\x00B\x00>", list(start("a\ufffdb\ufffd"))},
		{"</a\x00>", list(end("a\ufffd"))},
		{"<a\tb><a\nb><a\fb><a\rb><a b>", list(start("a", "b", ""), start("a", "b", ""), start("a", "b", ""), start("a", "b", ""), start("a", "b", ""))},
		{"<a\vb><a\u00a0b>", list(start("a\vb"), start("a\u00a0b"))},
		{"<a/b>", list(start("a", "b", ""))},
	})
}

func TestSelf(t *testing.T) {
	check(t, []reading{
		{"<a/>", list(self(start("a")))},
		{"<a />", list(self(start("a")))},
		{"<a/ >", list(start("a"))},
		{"<a//>", list(self(start("a")))},
		{"<a///b>", list(start("a", "b", ""))},
		{"<a / / b / >", list(start("a", "b", ""))},
		{"<a b/>", list(self(start("a", "b", "")))},
		{"<a b=c/>", list(start("a", "b", "c/"))},
		{"<a b=c />", list(self(start("a", "b", "c")))},
		{"<a b=/>", list(start("a", "b", "/"))},
		{"<a b='c'/>", list(self(start("a", "b", "c")))},
		{"<a b=\"\"/>c", list(self(start("a", "b", "")), text("c"))},
	})
}

func TestAttributeNames(t *testing.T) {
	check(t, []reading{
		{"<a b>", list(start("a", "b", ""))},
		{"<a  b\n\tC >", list(start("a", "b", "", "c", ""))},
		{"<a b/c>", list(start("a", "b", "", "c", ""))},
		{"<a ONClick=X>", list(start("a", "onclick", "X"))},
		{"<a É=1>", list(start("a", "É", "1"))},
		{"<a \"b'<c>", list(start("a", "\"b'<c", ""))},
		{"<a &amp;=1>", list(start("a", "&amp;", "1"))},
		{"<a \x00B\x00>", list(start("a", "\ufffdb\ufffd", ""))},
		{"<a =>", list(start("a", "=", ""))},
		{"<a =b>", list(start("a", "=b", ""))},
		{"<a ==b>", list(start("a", "=", "b"))},
		{"<a =b=c>", list(start("a", "=b", "c"))},
		{"<a ===>", list(start("a", "=", "="))},
		{"<a b/=c>", list(start("a", "b", "", "=c", ""))},
		{"<a/=/b>", list(start("a", "=", "", "b", ""))},
	})
}

func TestAttributeValues(t *testing.T) {
	check(t, []reading{
		{"<a b=c>", list(start("a", "b", "c"))},
		{"<a b = c>", list(start("a", "b", "c"))},
		{"<a b\n=\t'c'>", list(start("a", "b", "c"))},
		{"<a b c>", list(start("a", "b", "", "c", ""))},
		{"<a b / =c>", list(start("a", "b", "", "=c", ""))},
		{"<a b=>c", list(start("a", "b", ""), text("c"))},
		{"<a b= >c", list(start("a", "b", ""), text("c"))},
		{"<a b='' c=\"\">", list(start("a", "b", "", "c", ""))},
		{"<a b='\"' c=\"'\">", list(start("a", "b", "\"", "c", "'"))},
		{"<a b='c>d/ e\n=<'>", list(start("a", "b", "c>d/ e\n=<"))},
		{"<a b='c'd=\"e\"f>", list(start("a", "b", "c", "d", "e", "f", ""))},
		{"<a b=c'd\"e=f`g<h>", list(start("a", "b", "c'd\"e=f`g<h"))},
		{"<a b=C\td>", list(start("a", "b", "C", "d", ""))},
		{"<a b=\x00 c='\x00d' e=\"\x00\">", list(start("a", "b", "\ufffd", "c", "\ufffdd", "e", "\ufffd"))},
		{"<a b='&lt;' c=&gt; d=\"&quot;\">", list(start("a", "b", "<", "c", ">", "d", "\""))},
		{"<a b='&#39;' c=&#32;&#62;d>", list(start("a", "b", "'", "c", " >d"))},
		{"<a b='&#0;\x00'>", list(start("a", "b", "\ufffd\ufffd"))},
	})
}

func TestAttributesOnce(t *testing.T) {
	check(t, []reading{
		{"<a b=1 b=2>", list(start("a", "b", "1"))},
		{"<a b B=2 c=3 b=4 C>", list(start("a", "b", "", "c", "3"))},
		{"<a \x00=1 \ufffd=2>", list(start("a", "\ufffd", "1"))},
		{"<a É=1 é=2>", list(start("a", "É", "1", "é", "2"))},
	})
}

func TestEndTag(t *testing.T) {
	check(t, []reading{
		{"</a b=c d>e", list(end("a"), text("e"))},
		{"</a/>", list(end("a"))},
		{"</a b='>'/ >", list(end("a"))},
		{"</a =/>", list(end("a"))},
	})
}

func TestInputEndsWithinTag(t *testing.T) {
	for _, s := range []string{
		"<a", "<a ", "<a/", "<a b", "<a b ", "<a b=", "<a b= ", "<a b=c", "<a b=c ", "<a b='", "<a b='c", "<a b='c>", "<a b='c'", "<a b=\"c'>", "<a b=&amp", "<a b='&amp;",
		"</a", "</a ", "</a/", "</a b='", "<a b='c>d<e>f</g>",
	} {
		check(t, []reading{{s, nil}, {"x<y>" + s, list(text("x"), start("y"))}})
	}
}

func TestManyAttributes(t *testing.T) {
	var s strings.Builder
	for i := range 100000 {
		s.WriteString(" n" + strconv.Itoa(i/2) + "=" + strconv.Itoa(i))
	}
	got := lex.All([]byte("<a" + s.String() + ">"))
	if len(got) != 1 || len(got[0].Attrs) != 50000 || got[0].Attrs[49999].Val != "99998" {
		t.Error("many attributes")
	}
}
