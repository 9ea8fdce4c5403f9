package tree_test

import (
	"slices"
	"testing"

	"woodcut/api"
	"woodcut/dom"
	"woodcut/tree"
)

// P12.11: fragments

func TestPartOfDiv(t *testing.T) {
	cases{
		{"a<b>c</b>&amp;\x00d", "'a' b('c') '&d'"},
		{"\na", "'\na'"},
		{"a<td>b", "'ab'"},
		{"</div>a<p>b", "'a' p('b')"},
		{"<p>a<li>b", "p('a') li('b')"},
		{"<html a=b><head c=d><body e=f>g", "'g'"},
		{"<title>a<b></title>b<meta>", "title('a<b>') 'b' meta"},
		{"<!doctype x><!--a--></body></html><!--b-->c", "!a !b 'c'"},
		{"<table>a<td>b", "'a' table(tbody(tr(td('b'))))"},
		{"</p></br>", "p br"},
		{"<form>a<form>b", "form('ab')"},
	}.check(t, within("div"))
}

func TestPartOfTitle(t *testing.T) {
	cases{
		{"a<b>c</b>&amp;d", "'a<b>c</b>&d'"},
		{"\na\x00", "'\na�'"},
		{"a</x>b", "'a</x>b'"},
		{"a</titlex>b", "'a</titlex>b'"},
		{"a</title>b<p>c", "'ab' p('c')"},
	}.check(t, within("title"))
}

func TestPartOfTextarea(t *testing.T) {
	cases{
		{"a<b>c</b>&amp;d", "'a<b>c</b>&d'"},
		{"\na", "'\na'"},
		{"a</textarea>b<p>c", "'ab' p('c')"},
	}.check(t, within("textarea"))
}

func TestPartOfStyle(t *testing.T) {
	cases{
		{"a<b>c</b>&amp;d", "'a<b>c</b>&amp;d'"},
		{"a</style>b<p>c", "'ab' p('c')"},
		{"a</style", "'a</style'"},
	}.check(t, within("style"))
}

func TestPartOfXmp(t *testing.T) {
	cases{
		{"a<b>c</b>&amp;d", "'a<b>c</b>&amp;d'"},
	}.check(t, within("xmp"))
}

func TestPartOfIframe(t *testing.T) {
	cases{
		{"a<b>c</b>&amp;d", "'a<b>c</b>&amp;d'"},
	}.check(t, within("iframe"))
}

func TestPartOfNoembed(t *testing.T) {
	cases{
		{"a<b>c</b>&amp;d", "'a<b>c</b>&amp;d'"},
	}.check(t, within("noembed"))
}

func TestPartOfNoframes(t *testing.T) {
	cases{
		{"a<b>c</b>&amp;d", "'a<b>c</b>&amp;d'"},
	}.check(t, within("noframes"))
}

func TestPartOfScript(t *testing.T) {
	cases{
		{"a<b>c</b>&amp;d", "'a<b>c</b>&amp;d'"},
		{"a<!--<script></script>--></script>b<p>c", "'a<!--<script></script>-->b' p('c')"},
		{"a</script>b<p>c", "'ab' p('c')"},
	}.check(t, within("script"))
}

func TestPartOfPlaintext(t *testing.T) {
	cases{
		{"a<b>c</b>&amp;d", "'a<b>c</b>&amp;d'"},
		{"a</plaintext>b<p>c", "'a</plaintext>b<p>c'"},
	}.check(t, within("plaintext"))
}

func TestPartOfNoscript(t *testing.T) {
	cases{
		{"a<b>c</b>&amp;d", "'a' b('c') '&d'"},
	}.check(t, within("noscript"))
}

func TestPartOfTemplate(t *testing.T) {
	cases{
		{"<td>a", "td('a')"},
		{"a<td>b", "'a' td('b')"},
		{"<col>a<td>", "col"},
		{"<tr>a<td>b", "tr(td('b')) 'a'"},
		{"<caption>a<tr>", "caption('a') tbody(tr)"},
		{"</template>a", "'a'"},
		{"</template><template>a</template><tr>b", "template('a') tr 'b'"},
		{"<p>a<td>b", "p('ab')"},
		{"<template></template><td>a", "template td('a')"},
		{"<select><template></template><p>a", "select(template 'a')"},
		{"<select>a</select><td>b", "select('a') 'b'"},
	}.check(t, within("template"))
}

func TestPartOfForm(t *testing.T) {
	cases{
		{"a<form>b", "'ab'"},
		{"</form>a<form>b", "'a' form('b')"},
		{"<table><form>", "table"},
		{"<template><form>a</template>", "template(form('a'))"},
		{"<div></form>a", "div('a')"},
	}.check(t, within("form"))
}

func TestPartOfSelect(t *testing.T) {
	cases{
		{"<option>a<p>b<option>c", "option('ab') option('c')"},
		{"</select>a", "'a'"},
		{"<select>a", "'a'"},
		{"<input>a", "'a'"},
		{"<textarea>a", "'a'"},
		{"<table>a<tr>b", "'ab'"},
		{"<template></template><p>a", "template 'a'"},
	}.check(t, within("select"))
}

func TestPartOfTable(t *testing.T) {
	cases{
		{"<td>a", "tbody(tr(td('a')))"},
		{"a", "'a'"},
		{" ", "' '"},
		{"\x00a", "'a'"},
		{"<b>a<tr>b", "b('a') tbody(tr) b('b')"},
		{"</table><table>a", "'a'"},
		{"<caption>a</caption><col><tr>", "caption('a') colgroup(col) tbody(tr)"},
		{"<form><form>", "form"},
		{"<select><tr>a", "select tbody(tr) 'a'"},
		{"<select><template></template><tr>a", "select(template 'a')"},
		{"<template></template><td>a", "template tbody(tr(td('a')))"},
	}.check(t, within("table"))
}

func TestPartOfTbody(t *testing.T) {
	cases{
		{"<td>a", "tr(td('a'))"},
		{"</tbody></table><caption><tbody><tr>", "tr"},
		{"<tr></tbody><td>a", "tr(td('a'))"},
		{"</tbody><td>a", "tr(td('a'))"},
	}.check(t, within("tbody"))
}

func TestPartOfThead(t *testing.T) {
	cases{
		{"<td>a", "tr(td('a'))"},
	}.check(t, within("thead"))
}

func TestPartOfTfoot(t *testing.T) {
	cases{
		{"<td>a", "tr(td('a'))"},
	}.check(t, within("tfoot"))
}

func TestPartOfTr(t *testing.T) {
	cases{
		{"<td>a<td>b", "td('a') td('b')"},
		{"a<td>b", "'a' td('b')"},
		{"</tr><tr><tbody></table><td>a", "td('a')"},
		{"<table><td>a", "td('a')"},
	}.check(t, within("tr"))
}

func TestPartOfTd(t *testing.T) {
	cases{
		{"<td>a<tr>b", "'ab'"},
		{"</td>a", "'a'"},
		{"<p>a<table><td>b", "p('a') table(tbody(tr(td('b'))))"},
	}.check(t, within("td"))
}

func TestPartOfTh(t *testing.T) {
	cases{
		{"<td>a<tr>b", "'ab'"},
		{"</th>a", "'a'"},
	}.check(t, within("th"))
}

func TestPartOfCaption(t *testing.T) {
	cases{
		{"a<td>b</caption>c<caption>", "'abc'"},
		{"<table><td>a", "table(tbody(tr(td('a'))))"},
	}.check(t, within("caption"))
}

func TestPartOfColgroup(t *testing.T) {
	cases{
		{"<col><col>", "col col"},
		{"a<col>", "col"},
		{" a<col>", "' ' col"},
		{"</colgroup><col>", "col"},
		{" <!--a--><td>b", "' ' !a"},
		{"<template><col></template><col>", "template(col) col"},
	}.check(t, within("colgroup"))
}

func TestPartOfHTML(t *testing.T) {
	cases{
		{"a", "head body('a')"},
		{"<head><title>a</title></head><body b=c>d", "head(title('a')) body[b=c]('d')"},
		{"<!--a--><p>b", "!a head body(p('b'))"},
		{" <!--a-->", "!a head body"},
		{"<body>a</body><!--b--></html><!--c-->", "head body('a') !b !c"},
		{"<template>a", "head(template('a')) body"},
		{"<html a=b>", "head body"},
	}.check(t, within("html"))
}

func TestPartOfHead(t *testing.T) {
	cases{
		{"<title>a</title><p>b", "title('a') p('b')"},
		{"<head><meta>a</head>b", "meta 'ab'"},
		{"a<td>b</body>c", "'abc'"},
	}.check(t, within("head"))
}

func TestPartOfSVG(t *testing.T) {
	cases{
		{"<p>a<g>b", "p('a' g('b'))"},
		{"<desc/>a", "desc('a')"},
	}.check(t, within("svg"))
}

func TestPartOfMath(t *testing.T) {
	cases{
		{"<mi>a<b>c", "mi('a' b('c'))"},
	}.check(t, within("math"))
}

func TestPartOfOption(t *testing.T) {
	cases{
		{"<option>a<p>b", "option('a' p('b'))"},
	}.check(t, within("option"))
}

func TestPartOfP(t *testing.T) {
	cases{
		{"</p>a<p>b", "p 'a' p('b')"},
	}.check(t, within("p"))
}

func TestPartOfA(t *testing.T) {
	cases{
		{"<a>b</a>c<a>d", "a('b') 'c' a('d')"},
	}.check(t, within("a"))
}

func TestPartOfLi(t *testing.T) {
	cases{
		{"a<li>b</li>c", "'a' li('b') 'c'"},
	}.check(t, within("li"))
}

func TestPartOfBody(t *testing.T) {
	cases{
		{"<p>a<td>b", "p('ab')"},
		{"a</body><!--b-->", "'a' !b"},
		{"<body a=b>c", "'c'"},
		{"<head><template>a</template>b", "template('a') 'b'"},
	}.check(t, within("body"))
}

// The contents stand beneath an html element, which stands beneath the page alone; no fragment has Quirks.
func TestNodeOfPart(t *testing.T) {
	for _, in := range []string{"", "a<p>b", "<!doctype x>a", "</html><!--a--></html><!--b-->", "<html a=b>", "<table>a"} {
		for _, context := range words("div html table template select") {
			d, n, err := tree.Part([]byte(in), context)
			if err != api.OK || !slices.Equal(d.Kids(dom.Root), []int{n}) || !d.Is(n, "html") || d.Quirks {
				t.Errorf("%q in %s: error %d, node %d of %s", in, context, err, n, told(d, dom.Root))
			}
		}
	}
}

func TestAttributesOfPart(t *testing.T) {
	for context, want := range map[string]string{"div": "html[a=b]", "template": "html[a=b]", "table": "html[a=b]", "colgroup": "html[a=b]", "select": "html[a=b]", "html": "html[a=b](head body)"} {
		d, _, err := tree.Part([]byte("<html a=b><html a=c>"), context)
		if err != api.OK || told(d, dom.Root) != want {
			t.Errorf("%s: error %d, %s", context, err, told(d, dom.Root))
		}
	}
}

func TestTablesOfPartsHaveNoQuirks(t *testing.T) {
	cases{{"<p>a<table>", "p('a') table"}}.check(t, within("div"))
}
