package tree_test

import "testing"

// P12.9: what isn't HTML

func TestForeignTexts(t *testing.T) {
	cases{
		{"<svg>a\x00b<!--c--><!doctype x>\x00\x00", "svg:svg('a�b' !c '��')"},
		{"<math> \x00</math>\x00", "math:math(' �')"},
		{"<svg>&amp;&lt;a", "svg:svg('&<a')"},
		{"<svg><!doctype b>a", "svg:svg('a')"},
		{"<svg><g><!doctype p>a", "svg:svg(svg:g('a'))"},
	}.check(t, body)
}

func TestForeignNames(t *testing.T) {
	cases{
		{"<svg><foreignobject/><clippath/><lineargradient/><radialgradient/><textpath/><altglyph/><foreignObject/>", "svg:svg(svg:foreignObject svg:clipPath svg:linearGradient svg:radialGradient svg:textPath svg:altglyph svg:foreignObject)"},
		{"<math><foreignobject/><clippath/><lineargradient/><radialgradient/><textpath/>", "math:math(math:foreignobject math:clippath math:lineargradient math:radialgradient math:textpath)"},
		{"<svg><g viewbox=1 definitionurl=2 VIEWBOX=3 viewboxes=4>", "svg:svg(svg:g[viewBox=1][definitionurl=2][viewboxes=4])"},
		{"<math><mrow viewbox=1 definitionurl=2 definitionurls=3>", "math:math(math:mrow[viewbox=1][definitionURL=2][definitionurls=3])"},
		{"<svg><g a=b />c<g>d</g>e", "svg:svg(svg:g[a=b] 'c' svg:g('d') 'e')"},
		{"<svg><math><mi>a<b>c", "svg:svg(svg:math(svg:mi('a'))) b('c')"},
		{"<math><svg><desc>a<b>c", "math:math(math:svg(math:desc('a'))) b('c')"},
		{"<svg><image>a</image>b<script>c</script><title>d<p>e", "svg:svg(svg:image('a') 'b' svg:script('c') svg:title('d' p('e')))"},
		{"<svg><tr><td>a", "svg:svg(svg:tr(svg:td('a')))"},
		{"<svg><select><option>a<p>b", "svg:svg(svg:select(svg:option('a'))) p('b')"},
		{"<svg><input/><input>a", "svg:svg(svg:input svg:input('a'))"},
		{"<svg><frameset>a", "svg:svg(svg:frameset('a'))"},
		{"<svg><form>a</form><form>b", "svg:svg(svg:form('a') svg:form('b'))"},
		{"<svg><svg/>a<svg>b", "svg:svg(svg:svg 'a' svg:svg('b'))"},
		{"<svg><html a=b>c", "svg:svg(svg:html[a=b]('c'))"},
	}.check(t, body)
}

func TestForeignFonts(t *testing.T) {
	cases{
		{"<svg><font a=b>c<font d=e>f", "svg:svg(svg:font[a=b]('c' svg:font[d=e]('f')))"},
		{"<svg><font>a", "svg:svg(svg:font('a'))"},
		{"<svg><font color=a>b", "svg:svg font[color=a]('b')"},
		{"<svg><font face=a>b", "svg:svg font[face=a]('b')"},
		{"<svg><font size=a>b", "svg:svg font[size=a]('b')"},
		{"<svg><font a=b size>c", "svg:svg font[a=b][size=]('c')"},
		{"<math><mi><svg><g><font size=a>b", "math:math(math:mi(svg:svg(svg:g) font[size=a]('b')))"},
		{"<svg></font>a", "svg:svg('a')"},
	}.check(t, body)
}

func TestOutOfForeign(t *testing.T) {
	cases{
		{"<svg><g><p>a</p>b", "svg:svg(svg:g) p('a') 'b'"},
		{"<svg><desc><svg><g><p>a", "svg:svg(svg:desc(svg:svg(svg:g) p('a')))"},
		{"<svg><foreignobject><math><mi><svg><g><b>a", "svg:svg(svg:foreignObject(math:math(math:mi(svg:svg(svg:g) b('a')))))"},
		{"<math><annotation-xml><mi><svg><g><b>a", "math:math(math:annotation-xml(math:mi(svg:svg(svg:g) b('a'))))"},
		{"<math><annotation-xml encoding=text/html><math><g><b>a", "math:math(math:annotation-xml[encoding=text/html](math:math(math:g) b('a')))"},
		{"<math><annotation-xml><svg><g><b>a", "math:math(math:annotation-xml(svg:svg(svg:g))) b('a')"},
		{"<svg><g></p>a", "svg:svg(svg:g) p 'a'"},
		{"<svg><g></br>a", "svg:svg(svg:g) br 'a'"},
		{"<math><mi></p>a", "math:math(math:mi(p 'a'))"},
		{"<math><mi></br>a", "math:math(math:mi(br 'a'))"},
		{"<svg><desc><svg></p>a", "svg:svg(svg:desc(svg:svg p 'a'))"},
		{"<b><svg><p>a", "b(svg:svg p('a'))"},
		{"<p><svg><p>a", "p(svg:svg) p('a')"},
		{"<svg><a>a<table>b", "svg:svg(svg:a('a')) 'b' table"},
		{"<svg><body a=b>c", "svg:svg 'c'"},
		{"<svg><head>a", "svg:svg 'a'"},
		{"<table><svg><g><table>a", "svg:svg(svg:g) table 'a' table"},
		{"<table><td><svg><g><p>a<td>b", "table(tbody(tr(td(svg:svg(svg:g) p('a')) td('b'))))"},
		{"<p><b></p><svg><g><u>a", "p(b) b(svg:svg(svg:g) u('a'))"},
	}.check(t, body)
}

func TestForeignEnds(t *testing.T) {
	cases{
		{"<svg><g></G>a", "svg:svg(svg:g 'a')"},
		{"<svg><foreignObject></foreignobject>a", "svg:svg(svg:foreignObject 'a')"},
		{"<svg><clipPath></CLIPPATH>a", "svg:svg(svg:clipPath 'a')"},
		{"<math><mi></math>a", "math:math(math:mi) 'a'"},
		{"<svg><a><g></a>b", "svg:svg(svg:a(svg:g) 'b')"},
		{"<svg><g><path></svg>a", "svg:svg(svg:g(svg:path)) 'a'"},
		{"<svg><g></div>a", "svg:svg(svg:g('a'))"},
		{"<div><svg><g></div>a", "div(svg:svg(svg:g)) 'a'"},
		{"<svg><desc><p></svg>a", "svg:svg(svg:desc(p('a')))"},
		{"<svg><desc></svg>a", "svg:svg(svg:desc) 'a'"},
		{"<p><svg><g></foo>a</g>b", "p(svg:svg(svg:g('a') 'b'))"},
		{"<foo><svg><g></foo>a", "foo(svg:svg(svg:g)) 'a'"},
		{"<svg></body><!--a-->", "svg:svg(!a)"},
		{"<svg></html><!--a-->", "svg:svg(!a)"},
		{"<svg><desc><svg></desc>a", "svg:svg(svg:desc(svg:svg) 'a')"},
		{"<svg><g><desc><svg></g>a", "svg:svg(svg:g(svg:desc(svg:svg)) 'a')"},
		{"<math><mi><p>a</math>b", "math:math(math:mi(p('ab')))"},
		{"<table><td><svg><td></td>a</td><!--b-->", "table(tbody(tr(td(svg:svg(svg:td 'a')) !b)))"},
		{"<table><td><svg></tr><!--b-->", "table(tbody(tr(td(svg:svg)) !b))"},
		{"<b><svg></b>a", "b(svg:svg) 'a'"},
		{"<svg><template>a</template>b", "svg:svg(svg:template('a') 'b')"},
		{"<template><svg></template>a", "template(svg:svg) 'a'"},
	}.check(t, body)
}

// The outermost element isn't asked.
func TestForeignInParts(t *testing.T) {
	cases{
		{"<svg></foo>a", "svg:svg('a')"},
		{"<svg></div>a", "svg:svg('a')"},
		{"<svg></html>a", "svg:svg('a')"},
		{"<svg><g></p>a", "svg:svg(svg:g) p 'a'"},
		{"<svg><p>a", "svg:svg p('a')"},
		{"<svg><g></svg>a", "svg:svg(svg:g) 'a'"},
	}.check(t, within("div"))
}
