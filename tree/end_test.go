package tree_test

import "testing"

// P12.5: end tags in body

func TestEndOfBody(t *testing.T) {
	cases{
		{"<body><p>a</body>b", "html(head body(p('ab')))"},
		{"<body><p>a</html>b", "html(head body(p('ab')))"},
		{"<body>a</body><!--b-->", "html(head body('a') !b)"},
		{"<body>a</html><!--b-->", "html(head body('a')) !b"},
		{"<body><table><td></body></html><!--b-->a", "html(head body(table(tbody(tr(td(!b 'a'))))))"},
		{"<body><marquee></body></html><!--c-->a", "html(head body(marquee(!c 'a')))"},
		{"<body><object></html><!--c-->", "html(head body(object(!c)))"},
		{"<body><button></body><!--a-->", "html(head body(button) !a)"},
		{"<body><ul></body><!--a-->", "html(head body(ul) !a)"},
	}.check(t, page)
}

func TestEndOfForms(t *testing.T) {
	cases{
		{"</form>a", "'a'"},
		{"<form></form>a", "form 'a'"},
		{"<form><div></form>a", "form(div('a'))"},
		{"<form><p></form>a", "form(p) 'a'"},
		{"<form><b></form>a", "form(b('a'))"},
		{"<form><table><td></form>a</table>b<form>", "form(table(tbody(tr(td('a')))) 'b' form)"},
		{"<form><object></form>a</form>b", "form(object('ab'))"},
		{"<form><template></form>a</template></form>b", "form(template('a')) 'b'"},
		{"<template></form>a<form>b</form>c", "template('a' form('b') 'c')"},
		{"<template><form><p>a</form>b", "template(form(p('a')) 'b')"},
		{"<template><form><div>a</form>b", "template(form(div('a')) 'b')"},
		{"<template><form><object>a</form>b", "template(form(object('ab')))"},
		{"<form><button></form>a", "form(button('a'))"},
		{"<form><button></form></button>a", "form(button) 'a'"},
		{"<form><ul></form>a", "form(ul('a'))"},
		{"<form><ul></form></ul>a", "form(ul) 'a'"},
		{"<form><object></form></object>a", "form(object 'a')"},
		{"<template><form><button>a</form>b", "template(form(button('a')) 'b')"},
		{"<template><form><ul>a</form>b", "template(form(ul('a')) 'b')"},
	}.check(t, body)
}

func TestEndOfParagraphs(t *testing.T) {
	cases{
		{"</p>", "p"},
		{"<div></p>a", "div(p 'a')"},
		{"<p><b>a</p>b", "p(b('a')) b('b')"},
		{"<p><span>a</p>b", "p(span('a')) 'b'"},
		{"<p><div></p>a", "p div(p 'a')"},
		{"<p><button></p>a", "p(button(p 'a'))"},
		{"<p><object></p>a", "p(object(p 'a'))"},
		{"<p><option></p>a", "p(option) 'a'"},
		{"<p><b></p></p>a", "p(b) p b('a')"},
	}.check(t, body)
}

func TestEndOfItems(t *testing.T) {
	cases{
		{"a</li>b", "'ab'"},
		{"<ul><li>a</li>b", "ul(li('a') 'b')"},
		{"<li><ul></li>a", "li(ul('a'))"},
		{"<li><ol></li>a", "li(ol('a'))"},
		{"<li><p>a</li>b", "li(p('a')) 'b'"},
		{"<li><b>a</li>b", "li(b('a')) b('b')"},
		{"<li><div>a</li>b", "li(div('a')) 'b'"},
		{"<li><button>a</li>b", "li(button('a')) 'b'"},
		{"<li><table><td></li>a", "li(table(tbody(tr(td('a')))))"},
		{"<dl><dt>a</dd>b", "dl(dt('ab'))"},
		{"<dl><dd>a</dd>b", "dl(dd('a') 'b')"},
		{"<dd><ul><li></dd>a", "dd(ul(li)) 'a'"},
		{"<dt><p>a</dt>b", "dt(p('a')) 'b'"},
		{"<dd><dt>a</dd>b", "dd dt('ab')"},
		{"<dd><object></dd>a", "dd(object('a'))"},
		{"a</dt>b", "'ab'"},
		{"<dd><button></dd>a", "dd(button) 'a'"},
		{"<dt><object></dt>a", "dt(object('a'))"},
		{"<li><object></li>a", "li(object('a'))"},
	}.check(t, body)
}

func TestEndOfHeadings(t *testing.T) {
	cases{
		{"a</h1>b", "'ab'"},
		{"<h1>a</h6>b", "h1('a') 'b'"},
		{"<h1><p>a</h3>b", "h1(p('a')) 'b'"},
		{"<h1><b>a</h2>b", "h1(b('a')) b('b')"},
		{"<h1><div>a</h2>b", "h1(div('a')) 'b'"},
		{"<h1><table><td></h1>a", "h1(table(tbody(tr(td('a')))))"},
		{"<h2><h1>a</h2>b", "h2 h1('a') 'b'"},
		{"<h1><button>a</h1>b", "h1(button('a')) 'b'"},
		{"<h1><ul>a</h1>b", "h1(ul('a')) 'b'"},
		{"<h1><object>a</h1>b", "h1(object('ab'))"},
		{"<h1><svg><desc>a</h1>b", "h1(svg:svg(svg:desc('ab')))"},
	}.check(t, body)
}

func TestEndOfBreaks(t *testing.T) {
	cases{
		{"a</br>b", "'a' br 'b'"},
		{"a</br b=c>d", "'a' br 'd'"},
		{"<p><b></p></br>a", "p(b) b(br 'a')"},
	}.check(t, body)
}

func TestEndOfMarkers(t *testing.T) {
	cases{
		{"a</object>b", "'ab'"},
		{"<object><p>a</object>b", "object(p('a')) 'b'"},
		{"<object><div>a</object>b", "object(div('a')) 'b'"},
		{"<object><td></object>a", "object 'a'"},
		{"<object><marquee><i>a</object>b</marquee>c", "object(marquee(i('ab')) 'c')"},
		{"<i><applet></applet></i>a", "i(applet) 'a'"},
	}.check(t, body)
}

func TestOtherEnds(t *testing.T) {
	cases{
		{"a</foo>b", "'ab'"},
		{"<foo a><foo b>c</foo>d", "foo[a=](foo[b=]('c') 'd')"},
		{"<foo><p>a</foo>b", "foo(p('ab'))"},
		{"<foo><b>a</foo>c", "foo(b('a')) b('c')"},
		{"<foo><option>a</foo>b", "foo(option('a')) 'b'"},
		{"<foo><rt><foo>a</foo>b", "foo(rt(foo('a') 'b'))"},
		{"<foo><svg><desc></foo>a", "foo(svg:svg(svg:desc('a')))"},
		{"<foo><svg></foo>a", "foo(svg:svg) 'a'"},
		{"<svg><foo><desc></foo>a", "svg:svg(svg:foo(svg:desc) 'a')"},
		{"<svg><desc><foo></desc>a", "svg:svg(svg:desc(foo('a')))"},
		{"<math><mi><foo></mi>a", "math:math(math:mi(foo('a')))"},
		{"<span><div>a</span>b", "span(div('ab'))"},
		{"<option><p></option>a", "option(p('a'))"},
		{"a</select>b", "'ab'"},
		{"a</textarea></script></title></style>b", "'ab'"},
		{"a</caption></td></tr></table></frameset></head></col>b", "'ab'"},
		{"<noscript><div>a</noscript>b", "noscript(div('ab'))"},
		{"<foo><x><y>a</x>b</foo>c", "foo(x(y('a')) 'b') 'c'"},
	}.check(t, body)
}
