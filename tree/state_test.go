package tree_test

import "testing"

// P12.2: which rules a token is read by, and where CDATA sections are allowed

func TestTextPoints(t *testing.T) {
	cases{
		{"<math><mi>a<b>c</b>d", "math:math(math:mi('a' b('c') 'd'))"},
		{"<math><mo>a<b>c</b>d", "math:math(math:mo('a' b('c') 'd'))"},
		{"<math><mn>a<b>c</b>d", "math:math(math:mn('a' b('c') 'd'))"},
		{"<math><ms>a<b>c</b>d", "math:math(math:ms('a' b('c') 'd'))"},
		{"<math><mtext>a<b>c</b>d", "math:math(math:mtext('a' b('c') 'd'))"},
		{"<math><mi>a<mglyph>b<b>c", "math:math(math:mi('a' math:mglyph('b') b('c')))"},
		{"<math><mi>a<malignmark>b<b>c", "math:math(math:mi('a' math:malignmark('b') b('c')))"},
		{"<math><mi>a</p>b", "math:math(math:mi('a' p 'b'))"},
		{"<math><mi>a</foo>b", "math:math(math:mi('ab'))"},
		{"<math><mi>a</math>b", "math:math(math:mi('a')) 'b'"},
		{"<math><mi><!--c-->", "math:math(math:mi(!c))"},
		{"<math><mi/>a<b>c", "math:math(math:mi 'a') b('c')"},
		{"<math><mi><svg><g>a", "math:math(math:mi(svg:svg(svg:g('a'))))"},
		{"<math><mi><math><mi>a<p>b", "math:math(math:mi(math:math(math:mi('a' p('b')))))"},
		{"<math><mi>a\x00b", "math:math(math:mi('ab'))"},
		{"<math>a\x00b", "math:math('a�b')"},
		{"<math><mrow>a<b>c", "math:math(math:mrow('a')) b('c')"},
		{"<svg><mi>a<b>c", "svg:svg(svg:mi('a')) b('c')"},
		{"<mi>a<mglyph>b", "mi('a' mglyph('b'))"},
	}.check(t, body)
}

func TestAnnotations(t *testing.T) {
	cases{
		{"<math><annotation-xml><svg><g>a<p>b", "math:math(math:annotation-xml(svg:svg(svg:g('a')))) p('b')"},
		{"<math><annotation-xml><svg/>a<g>b", "math:math(math:annotation-xml(svg:svg 'a' math:g('b')))"},
		{"<math><annotation-xml>a<g>b<b>c", "math:math(math:annotation-xml('a' math:g('b'))) b('c')"},
		{"<math><annotation-xml></svg>a", "math:math(math:annotation-xml('a'))"},
		{"<math><annotation-xml><math>a", "math:math(math:annotation-xml(math:math('a')))"},
		{"<math><svg>a<b>c", "math:math(math:svg('a')) b('c')"},
		{"<svg><annotation-xml><svg>a", "svg:svg(svg:annotation-xml(svg:svg('a')))"},
		{"<math><annotation-xml encoding=text/html>a<g>b</g><p>c", "math:math(math:annotation-xml[encoding=text/html]('a' g('b') p('c')))"},
		{"<math><annotation-xml encoding=text/html><svg>a<g>b", "math:math(math:annotation-xml[encoding=text/html](svg:svg('a' svg:g('b'))))"},
		{"<math><annotation-xml encoding=text/html>a\x00b", "math:math(math:annotation-xml[encoding=text/html]('ab'))"},
		{"<math><annotation-xml encoding=text/html></g></p>a</annotation-xml>b", "math:math(math:annotation-xml[encoding=text/html](p 'a') 'b')"},
		{"<math><annotation-xml encoding=tExT/hTmL><p>a", "math:math(math:annotation-xml[encoding=tExT/hTmL](p('a')))"},
		{"<math><annotation-xml encoding=application/xhtml+xml><p>a", "math:math(math:annotation-xml[encoding=application/xhtml+xml](p('a')))"},
		{"<math><annotation-xml encoding=APPLICATION/XHTML+XML><p>a", "math:math(math:annotation-xml[encoding=APPLICATION/XHTML+XML](p('a')))"},
		{"<math><annotation-xml encoding=text/xml><p>a", "math:math(math:annotation-xml[encoding=text/xml]) p('a')"},
		{"<math><annotation-xml encoding=\"\"><p>a", "math:math(math:annotation-xml[encoding=]) p('a')"},
		{"<math><annotation-xml encoding=\" text/html\"><p>a", "math:math(math:annotation-xml[encoding= text/html]) p('a')"},
		{"<math><annotation-xml encoding=text/html;><p>a", "math:math(math:annotation-xml[encoding=text/html;]) p('a')"},
		{"<math><annotation-xml ENCODING=text/html><p>a", "math:math(math:annotation-xml[encoding=text/html](p('a')))"},
		{"<math><annotation-xml type=text/html><p>a", "math:math(math:annotation-xml[type=text/html]) p('a')"},
		{"<svg><annotation-xml encoding=text/html>a<p>b", "svg:svg(svg:annotation-xml[encoding=text/html]('a')) p('b')"},
		{"<math><mrow encoding=text/html><p>a", "math:math(math:mrow[encoding=text/html]) p('a')"},
	}.check(t, body)
}

func TestPlacesOfSVGInWhichHTMLStands(t *testing.T) {
	cases{
		{"<svg><foreignObject>a<b>c</b><p>d</foreignObject>e", "svg:svg(svg:foreignObject('a' b('c') p('de')))"},
		{"<svg><desc>a<b>c</b><p>d</desc>e", "svg:svg(svg:desc('a' b('c') p('de')))"},
		{"<svg><title>a<b>c</title>d", "svg:svg(svg:title('a' b('cd')))"},
		{"<svg><title>a<b>c</b></title>d", "svg:svg(svg:title('a' b('c')) 'd')"},
		{"<svg><desc><mglyph>a<g>b", "svg:svg(svg:desc(mglyph('a' g('b'))))"},
		{"<svg><desc>a\x00b", "svg:svg(svg:desc('ab'))"},
		{"<svg><desc></p>a", "svg:svg(svg:desc(p 'a'))"},
		{"<svg><desc><!--a-->", "svg:svg(svg:desc(!a))"},
		{"<svg><desc>a</svg>b", "svg:svg(svg:desc('a')) 'b'"},
		{"<svg><desc><svg><g>a</g>b", "svg:svg(svg:desc(svg:svg(svg:g('a') 'b')))"},
		{"<svg><desc><script>a<b></script>c", "svg:svg(svg:desc(script('a<b>') 'c'))"},
		{"<svg><desc><table><td>a</desc>b", "svg:svg(svg:desc(table(tbody(tr(td('ab'))))))"},
		{"<svg><desc/>a<b>c", "svg:svg(svg:desc 'a') b('c')"},
		{"<svg><script>a<b>c", "svg:svg(svg:script('a')) b('c')"},
		{"<svg><style>a<g>c", "svg:svg(svg:style('a' svg:g('c')))"},
		{"<svg><foreignobjects>a<b>c", "svg:svg(svg:foreignobjects('a')) b('c')"},
		{"<math><desc>a<b>c", "math:math(math:desc('a')) b('c')"},
		{"<math><title>a<b>c", "math:math(math:title('a')) b('c')"},
		{"<math><foreignObject>a<b>c", "math:math(math:foreignobject('a')) b('c')"},
		{"<desc>a<svg>b</desc>c", "desc('a' svg:svg('b')) 'c'"},
	}.check(t, body)
}

func TestSections(t *testing.T) {
	cases{
		{"<![CDATA[x]]>a", "![CDATA[x]] 'a'"},
		{"<p><![CDATA[x]]>", "p(![CDATA[x]])"},
		{"<table><![CDATA[x]]>", "table(![CDATA[x]])"},
		{"<svg><![CDATA[<b>&amp;]]>", "svg:svg('<b>&amp;')"},
		{"<svg><g><![CDATA[x]]></g></svg><![CDATA[y]]>", "svg:svg(svg:g('x')) ![CDATA[y]]"},
		{"<svg><![CDATA[a\x00b]]>", "svg:svg('a�b')"},
		{"<svg><![CDATA[a]]><![CDATA[b", "svg:svg('ab')"},
		{"<math><![CDATA[x]]>", "math:math('x')"},
		{"<math><mi><![CDATA[x]]>", "math:math(math:mi('x'))"},
		{"<math><mi><![CDATA[x\x00]]>", "math:math(math:mi('x'))"},
		{"<svg><desc><![CDATA[x]]>", "svg:svg(svg:desc('x'))"},
		{"<svg><desc><p><![CDATA[x]]>", "svg:svg(svg:desc(p(![CDATA[x]])))"},
		{"<svg/><![CDATA[x]]>", "svg:svg ![CDATA[x]]"},
		{"<svg><p><![CDATA[x]]>", "svg:svg p(![CDATA[x]])"},
		{"<math><mi><p><b></p><![CDATA[x]]>", "math:math(math:mi(p(b) b('x')))"},
		{"<math><mi><p><b></p>a<![CDATA[x]]>", "math:math(math:mi(p(b) b('a' ![CDATA[x]])))"},
	}.check(t, body)
}

func TestSectionsOutsideOfTheBody(t *testing.T) {
	cases{
		{"<![CDATA[x]]>", "![CDATA[x]] html(head body)"},
		{"<!doctype html><![CDATA[x]]><html><![CDATA[y]]>", "?html ![CDATA[x]] html(![CDATA[y]] head body)"},
	}.check(t, page)
}

// The context element is one of HTML, whatever its name.
func TestSectionsOfParts(t *testing.T) {
	cases{
		{"<![CDATA[x]]>a", "![CDATA[x]] 'a'"},
		{"<svg><![CDATA[x]]>a", "svg:svg('xa')"},
	}.check(t, within("svg"))
}
