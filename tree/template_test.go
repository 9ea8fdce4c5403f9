package tree_test

import "testing"

// P12.8: templates, after body, and the mode that is reset

func TestTemplate(t *testing.T) {
	cases{
		{"<template> a\x00b<!--c--><!doctype x>", "template(' ab' !c)"},
		{"<template><base><basefont><bgsound><link><meta><noframes>a<b></noframes><script>c<d></script><style>e</style><title>f&amp;</title><template>g</template>", "template(base basefont bgsound link meta noframes('a<b>') script('c<d>') style('e') title('f&') template('g'))"},
		{"<template><title>a</title><tr>b", "template(title('a') tr 'b')"},
		{"<template><caption>a</caption><tr>", "template(caption('a') tbody(tr))"},
		{"<template><colgroup><col>", "template(colgroup(col))"},
		{"<template><tbody><td>a", "template(tbody(tr(td('a'))))"},
		{"<template><tfoot><tr>", "template(tfoot(tr))"},
		{"<template><thead><tr>", "template(thead(tr))"},
		{"<template><col><col>a<td>", "template(col col)"},
		{"<template><col><!--c--></col> <p>", "template(col !c ' ')"},
		{"<template><tr><td>a", "template(tr(td('a')))"},
		{"<template><td>a<th>b", "template(td('a') th('b'))"},
		{"<template><th>a<td>b<tr>c", "template(th('a') td('b') 'c')"},
		{"<template><p>a<td>b", "template(p('ab'))"},
		{"<template><div><tr>a", "template(div('a'))"},
		{"<template>a<tr>b", "template('a' tr 'b')"},
		{"<template></p></div></br></table>a", "template('a')"},
		{"<template></b>a", "template('a')"},
		{"<template><svg><g>a", "template(svg:svg(svg:g('a')))"},
		{"<template><frameset><td>a", "template('a')"},
		{"<template><tr></tr><col>", "template(tr)"},
		{"<template><tbody></tbody><caption>", "template(tbody caption)"},
		{"<template><td></td><p>a", "template(td p('a'))"},
		{"<template><td></td>a", "template(td 'a')"},
		{"<template><table><td>a</template>b", "template(table(tbody(tr(td('a'))))) 'b'"},
		{"<template><template><tr></template><td>a", "template(template(tr) td('a'))"},
		{"<template><tr><template></template><td>a", "template(tr(template td('a')))"},
		{"<template><form></form><form>", "template(form form)"},
		{"<template><select><template></template><td>a", "template(select(template 'a'))"},
		{"<svg><template>a</template>b", "svg:svg(svg:template('a') 'b')"},
		{"<template><td></td><template><tr></template><p>a<td>b", "template(td template(tr) p('a') td('b'))"},
		{"<template><tr></tr><template><col></template><p>a<td>b", "template(tr template(col) p('a') tr(td('b')))"},
	}.check(t, body)
}

func TestAfterBody(t *testing.T) {
	cases{
		{"<p>a</body> \n<!--b--><!doctype x><html c=d>", "html[c=d](head body(p('a \n')) !b)"},
		{"<p>a</body> b", "html(head body(p('a b')))"},
		{"<p><b></p></body> ", "html(head body(p(b) b(' ')))"},
		{"<p><b></p></body>\x00", "html(head body(p(b)))"},
		{"<p>a</body><p>b", "html(head body(p('a') p('b')))"},
		{"<p>a</body></p>b", "html(head body(p('a') 'b'))"},
		{"<body></body><body a=b>", "html(head body[a=b])"},
		{"<body>a</body><meta>b", "html(head body('a' meta 'b'))"},
		{"<body></body></div><!--a-->", "html(head body(!a))"},
		{"<p>a</body> <b>c", "html(head body(p('a ' b('c'))))"},
		{"<body></body><html a=b><!--c-->", "html[a=b](head body !c)"},
		{"<body></body>x<td>y", "html(head body('xy'))"},
	}.check(t, page)
}

func TestAfterAll(t *testing.T) {
	cases{
		{"<body></body></html><!--a-->", "html(head body) !a"},
		{"<body></body></html> <!--a--><!doctype x><html b=c>", "html[b=c](head body(' ')) !a"},
		{"<body>x</body></html> y<!--a-->", "html(head body('x y' !a))"},
		{"<p><b></p></body></html> <!--a-->", "html(head body(p(b) b(' '))) !a"},
		{"<body></body></html></html><!--a-->", "html(head body) !a"},
		{"<body></body></html></body><!--a-->", "html(head body !a)"},
		{"<body></body></html><p>a<!--b-->", "html(head body(p('a' !b)))"},
		{"<body></html></body><!--a-->", "html(head body !a)"},
		{"<body></body><!--a--></html><!--b--></body><!--c-->", "html(head body !a !c) !b"},
		{"<body>x</body></html><frameset>", "html(head body('x'))"},
		{"<p></body></html><b>x<!--a-->", "html(head body(p(b('x' !a))))"},
		{"<body></body></html><html a=b><!--c-->", "html[a=b](head body) !c"},
		{"<body></body></html>x<td>y", "html(head body('xy'))"},
	}.check(t, page)
}

// What follows a template, a table or a select is read as what stands around it asks for.
func TestReset(t *testing.T) {
	cases{
		{"<select><template></template><td>a<p>b", "select(template 'ab')"},
		{"<select><option><template></template><p>a", "select(option(template 'a'))"},
		{"<table><td><select><template></template><td>a", "table(tbody(tr(td(select(template)) td('a'))))"},
		{"<table><td><template><select><template></template><td>a", "table(tbody(tr(td(template(select(template 'a'))))))"},
		{"<table><td><template><div><select><template></template>a<tr>b", "table(tbody(tr(td(template(div(select(template 'ab')))))))"},
		{"<table><td><template></template>a<td>b", "table(tbody(tr(td(template 'a') td('b'))))"},
		{"<table><th><template></template>a<td>b", "table(tbody(tr(th(template 'a') td('b'))))"},
		{"<table><tr><template></template><td>a", "table(tbody(tr(template td('a'))))"},
		{"<table><tbody><template></template><td>a", "table(tbody(template tr(td('a'))))"},
		{"<table><thead><template></template><tr>", "table(thead(template tr))"},
		{"<table><tfoot><template></template><tr>", "table(tfoot(template tr))"},
		{"<table><caption><template></template>a<td>b", "table(caption(template 'a') tbody(tr(td('b'))))"},
		{"<table><colgroup><template></template><col>", "table(colgroup(template col))"},
		{"<table><template></template><td>a", "table(template tbody(tr(td('a'))))"},
		{"<template><tr><template></template><td>a", "template(tr(template td('a')))"},
		{"<template><template></template><td>a", "template(template td('a'))"},
		{"<template><td></td><template></template><td>a", "template(td template td('a'))"},
		{"<div><template></template>a<td>b", "div(template 'ab')"},
		{"<table><td><table></table>a<td>b", "table(tbody(tr(td(table 'a') td('b'))))"},
		{"<table><caption><table></table>a<td>b", "table(caption(table 'a') tbody(tr(td('b'))))"},
		{"<table><td><div><select></select>a<td>b", "table(tbody(tr(td(div(select 'a')) td('b'))))"},
		{"<table><td><svg><desc><template></template>a<td>b", "table(tbody(tr(td(svg:svg(svg:desc(template 'a'))) td('b'))))"},
		{"<svg><desc><table></table>a<g>b", "svg:svg(svg:desc(table 'a' g('b')))"},
		{"<table><td><svg><select><desc><template></template><td>a", "table(tbody(tr(td(svg:svg(svg:select(svg:desc(template)))) td('a'))))"},
		{"<table><td><svg><caption><desc><select></select><td>a", "table(tbody(tr(td(svg:svg(svg:caption(svg:desc(select)))) td('a'))))"},
	}.check(t, body)
}

func TestResetInTheHead(t *testing.T) {
	cases{
		{"<head><template></template><meta>", "html(head(template meta) body)"},
		{"<head></head><template></template><meta><body a=b>", "html(head(template meta) body[a=b])"},
		{"<head></head><template><template></template></template><body a=b>", "html(head(template(template)) body[a=b])"},
		{"<template></template></head><meta><body a=b>", "html(head(template meta) body[a=b])"},
	}.check(t, page)
}
