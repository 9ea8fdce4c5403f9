package tree_test

import "testing"

// P12.3: where what is inserted goes

func TestPlaces(t *testing.T) {
	cases{
		{"<p>a<!--b--><i>c", "p('a' !b i('c'))"},
		{"a</>b<i></i>c", "'ab' i 'c'"},
		{"<p>a<template>b<p>c</template>d", "p('a' template('b' p('c')) 'd')"},
		{"<template>a<template>b</template>c</template>d", "template('a' template('b') 'c') 'd'"},
		{"<template><!--a--><i>b", "template(!a i('b'))"},
	}.check(t, body)
}

// What may not stand right within a table goes ahead of it.
func TestFosterParents(t *testing.T) {
	cases{
		{"<table>a", "'a' table"},
		{"x<table>a", "'xa' table"},
		{"x<table>a<!--c-->b", "'xab' table(!c)"},
		{"<table>a<tr>b<td>c", "'ab' table(tbody(tr(td('c'))))"},
		{"<div><table><b>a", "div(b('a') table)"},
		{"<table><tbody>a", "'a' table(tbody)"},
		{"<table><thead>a", "'a' table(thead)"},
		{"<table><tfoot>a", "'a' table(tfoot)"},
		{"<table><tr>a", "'a' table(tbody(tr))"},
		{"<table><i>b</i>c<u>d", "i('b') 'c' u('d') table"},
		{"<table><b>a<tr>b<td>c</table>d", "b('a') b('b') table(tbody(tr(td('c')))) b('d')"},
		{"<table><p>a</p>b", "p('a') 'b' table"},
		{"<table><div>a<p>b", "div('a' p('b')) table"},
		{"<table><td>a<b>c", "table(tbody(tr(td('a' b('c')))))"},
		{"<table><th>a<b>c", "table(tbody(tr(th('a' b('c')))))"},
		{"<table><caption>a<b>c", "table(caption('a' b('c')))"},
		{"<table><colgroup>a", "'a' table(colgroup)"},
		{"<table><select>a", "select('a') table"},
		{"<table><title>a</title>b", "title('a') 'b' table"},
		{"<table><script>a</script>b", "'b' table(script('a'))"},
		{"<table><textarea>a</textarea>b", "textarea('a') 'b' table"},
		{"<table><svg>a<b>c", "svg:svg('a') b('c') table"},
		{"<table><svg><tr>a", "svg:svg(svg:tr('a')) table"},
		{"<table><svg><desc>a<td>b", "svg:svg(svg:desc('a')) table(tbody(tr(td('b'))))"},
		{"<table><math><mi>a", "math:math(math:mi('a')) table"},
		{"<table><td><table>a", "table(tbody(tr(td('a' table))))"},
		{"<table><td>x<table>a</table>b</table>c", "table(tbody(tr(td('xa' table 'b')))) 'c'"},
		{"<b><p><table>a</b>c", "b(p 'ac' table)"},
		{"<a><table><a>b", "a(a('b') table)"},
		{"<i>x<table>a<b>c", "i('xa' b('c') table)"},
	}.check(t, body)
}

func TestFosterParentsInTemplates(t *testing.T) {
	cases{
		{"<table><template>a<b>c</template>d", "'d' table(template('a' b('c')))"},
		{"<table><template><tr>a", "table(template(tr 'a'))"},
		{"<table><template><tr>a<b>c<td>d", "table(template(tr(td('d')) 'a' b('c')))"},
		{"<table><tr><template>a<tr>b<td>c", "table(tbody(tr(template('a' tr(td('c')) 'b'))))"},
		{"<template><table>a", "template('a' table)"},
		{"<template><table><tr>a", "template('a' table(tbody(tr)))"},
		{"<template><tr>a", "template(tr 'a')"},
		{"<template><tbody>a<tr>b", "template(tbody(tr) 'ab')"},
		{"<template><div><table>a", "template(div('a' table))"},
		{"<template><table><template><tr>a", "template(table(template(tr 'a')))"},
		{"<table><template><table>a", "table(template('a' table))"},
		{"<table><template><template><tr>a</template><tr>b</template>c", "'c' table(template(template(tr 'a') tr 'b'))"},
	}.check(t, body)
}

// Where neither a table nor a template is open, the outermost element takes what may not stand here.
func TestFosterParentsInParts(t *testing.T) {
	cases{
		{"<tr>a<td>b", "tr(td('b')) 'a'"},
		{"x<tr>a<!--c-->b", "'x' tr(!c) 'ab'"},
		{"<tr><b>a", "tr b('a')"},
		{"<tr><template>a", "tr(template('a'))"},
		{"<tr><td><table>a", "tr(td('a' table))"},
	}.check(t, within("tbody"))
}

func TestRaw(t *testing.T) {
	cases{
		{"<title>a<b>&amp;</b></TITLE x>b", "html(head(title('a<b>&</b>')) body('b'))"},
		{"<title>a\x00</title>", "html(head(title('a�')) body)"},
		{"<title></title><style>a</title>&amp;</style>b", "html(head(title style('a</title>&amp;')) body('b'))"},
		{"<script>a<!--<b></script>b", "html(head(script('a<!--<b>')) body('b'))"},
		{"<body><table><td><textarea>a<td></textarea>b<td>c", "html(head body(table(tbody(tr(td(textarea('a<td>') 'b') td('c'))))))"},
		{"<body><select><script>a<option></script><option>b", "html(head body(select(script('a<option>') option('b'))))"},
		{"<body><div><iframe>a</div></iframe>b</div>c", "html(head body(div(iframe('a</div>') 'b') 'c'))"},
		{"<body><xmp><xmp>a</xmp>b", "html(head body(xmp('<xmp>a') 'b'))"},
		{"<body><svg><title>a<g>b", "html(head body(svg:svg(svg:title('a' g('b')))))"},
		{"<body><svg><textarea>a<g>b", "html(head body(svg:svg(svg:textarea('a' svg:g('b')))))"},
	}.check(t, page)
}
