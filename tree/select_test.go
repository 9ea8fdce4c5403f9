package tree_test

import "testing"

// P12.8: select

func TestSelect(t *testing.T) {
	cases{
		{"<select>a\x00b<!--c--><!doctype x>d", "select('ab' !c 'd')"},
		{"<select>\x00", "select"},
		{"<select><html a=b>", "select"},
		{"<p><b></p><select><option>a", "p(b) b(select(option('a')))"},
		{"<select a=b><option c=d>a<option>b", "select[a=b](option[c=d]('a') option('b'))"},
		{"<select><option>a<optgroup b=c>d<option>e<optgroup>f", "select(option('a') optgroup[b=c]('d' option('e')) optgroup('f'))"},
		{"<select><optgroup><optgroup>", "select(optgroup optgroup)"},
		{"<select><option>a<hr>b", "select(option('a') hr 'b')"},
		{"<select><optgroup a><option>b<hr c=d><option>", "select(optgroup[a=](option('b')) hr[c=d] option)"},
		{"<select><optgroup><hr>a", "select(optgroup hr 'a')"},
		{"<select><hr><optgroup><hr>", "select(hr optgroup hr)"},
		{"<select><optgroup><option>a</optgroup>b", "select(optgroup(option('a')) 'b')"},
		{"<select><option>a</optgroup>b", "select(option('ab'))"},
		{"<select><optgroup>a</optgroup>b", "select(optgroup('a') 'b')"},
		{"<select></optgroup></option>a", "select('a')"},
		{"<select><optgroup><option>a</option>b</option>c", "select(optgroup(option('a') 'bc'))"},
		{"<select><optgroup></option>a", "select(optgroup('a'))"},
		{"<select><option>a</select>b", "select(option('a')) 'b'"},
		{"<select>a<select>b", "select('a') 'b'"},
		{"<select><optgroup><option>a<select>b", "select(optgroup(option('a'))) 'b'"},
		{"<select>a<input b=c>d", "select('a') input[b=c] 'd'"},
		{"<select><option>a<keygen>b", "select(option('a')) keygen 'b'"},
		{"<select>a<textarea>\nb</textarea>c", "select('a') textarea('b') 'c'"},
		{"<select><script>a<b></script>c", "select(script('a<b>') 'c')"},
		{"<select><template>a<b>b</template>c</template>d", "select(template('a' b('b')) 'cd')"},
		{"<select><style>a</style><title>b</title>c", "select('abc')"},
		{"<select><b>a</b><p>b<div><svg><br></br></p><table><tr>c", "select('abc')"},
		{"<b><select></b>a</select>b", "b(select('a') 'b')"},
		{"<p><select></p>a</select>b", "p(select('a') 'b')"},
		{"<select></div></body></html><!--a-->", "select(!a)"},
		{"<select><option><template><option>a</select></template>b", "select(option(template(option('a')) 'b'))"},
		{"<template><select><option>a</template>b", "template(select(option('a'))) 'b'"},
		{"<template><select>a</select><tr>b", "template(select('a') 'b')"},
	}.check(t, body)
}

func TestSelectInTable(t *testing.T) {
	cases{
		{"<table><select>a<tr>b", "select('a') 'b' table(tbody(tr))"},
		{"<table><select>a<td>b", "select('a') table(tbody(tr(td('b'))))"},
		{"<table><tbody><select><tr>", "select table(tbody(tr))"},
		{"<table><tr><select><td>a", "select table(tbody(tr(td('a'))))"},
		{"<table><caption><select><tr>a", "'a' table(caption(select) tbody(tr))"},
		{"<table><td><select>a<caption>b", "table(tbody(tr(td(select('a')))) caption('b'))"},
		{"<table><td><select>a<table>b", "table(tbody(tr(td(select('a') 'b' table))))"},
		{"<table><td><select>a<tbody>b", "'b' table(tbody(tr(td(select('a')))) tbody)"},
		{"<table><td><select>a<tfoot>", "table(tbody(tr(td(select('a')))) tfoot)"},
		{"<table><td><select>a<thead>", "table(tbody(tr(td(select('a')))) thead)"},
		{"<table><td><select>a<tr>", "table(tbody(tr(td(select('a'))) tr))"},
		{"<table><td><select>a<td>b", "table(tbody(tr(td(select('a')) td('b'))))"},
		{"<table><td><select>a<th>b", "table(tbody(tr(td(select('a')) th('b'))))"},
		{"<table><td><select>a<col><colgroup>b", "table(tbody(tr(td(select('ab')))))"},
		{"<table><td><select><option>a<tr>", "table(tbody(tr(td(select(option('a')))) tr))"},
		{"<table><td><select>a</tr><!--b-->", "table(tbody(tr(td(select('a'))) !b))"},
		{"<table><td><select>a</td><!--b-->", "table(tbody(tr(td(select('a')) !b)))"},
		{"<table><td><select>a</table>b", "table(tbody(tr(td(select('a'))))) 'b'"},
		{"<table><td><select>a</tbody><!--b-->", "table(tbody(tr(td(select('a')))) !b)"},
		{"<table><td><select>a</th></tfoot></thead></caption>b", "table(tbody(tr(td(select('ab')))))"},
		{"<table><td><select>a</col></colgroup></html></body>b", "table(tbody(tr(td(select('ab')))))"},
		{"<table><th><select>a</th><!--b-->", "table(tbody(tr(th(select('a')) !b)))"},
		{"<table><tfoot><td><select>a</tfoot><!--b-->", "table(tfoot(tr(td(select('a')))) !b)"},
		{"<table><thead><td><select>a</thead><!--b-->", "table(thead(tr(td(select('a')))) !b)"},
		{"<table><caption><select>a</caption><!--b-->", "table(caption(select('a')) !b)"},
		{"<table><caption><select>a<option>b</td><p>c</select>d", "table(caption(select('a' option('bc')) 'd'))"},
		{"<table><td><select><input>a<td>b", "table(tbody(tr(td(select input 'a') td('b'))))"},
		{"<table><td><select>a<select>b<td>c", "table(tbody(tr(td(select('a') 'b') td('c'))))"},
		{"<table><td><select><hr><optgroup><option>a</optgroup>b", "table(tbody(tr(td(select(hr optgroup(option('a')) 'b')))))"},
		{"<table><td><select><svg>a", "table(tbody(tr(td(select('a')))))"},
		{"<table><td><svg><desc><select><td>a", "table(tbody(tr(td(svg:svg(svg:desc(select))) td('a'))))"},
		{"<table><template><select><td>a", "table(template(select('a')))"},
		{"<svg><desc><select>a<td>b", "svg:svg(svg:desc(select('ab')))"},
	}.check(t, body)
}

// The mode of the context element td is body.
func TestSelectInTableOfParts(t *testing.T) {
	cases{
		{"<select>a<tr>b", "select('ab')"},
		{"<table><tr><td><select>a<tr>b", "'b' table(tbody(tr(td(select('a'))) tr))"},
	}.check(t, within("td"))
}
