package tree_test

import "testing"

// P12.5: start tags in body

func TestTextsInBody(t *testing.T) {
	cases{
		{"a\x00b<!--c--><!doctype x>\x00", "'ab' !c"},
		{"<p><b></p>\x00<p>a", "p(b) p(b('a'))"},
		{"<p><b></p>\x00a<p>b", "p(b) b('a' p('b'))"},
		{"<p><b><i></p>a", "p(b(i)) b(i('a'))"},
		{"<p><b></p> ", "p(b) b(' ')"},
		{"<p><b></p><!--c-->a", "p(b) !c b('a')"},
	}.check(t, body)
}

// From the last marker, or open element, on.
func TestReconstruct(t *testing.T) {
	cases{
		{"<p><b>a<i>b</p>c", "p(b('a' i('b'))) b(i('c'))"},
		{"<p><b a=b>c</p><i>d", "p(b[a=b]('c')) b[a=b](i('d'))"},
		{"<div><b><p><i><u></p>a</div>c", "div(b(p(i(u)) i(u('a')))) b(i(u('c')))"},
		{"<b><p><i></p></b>a", "b(p(i)) i('a')"},
		{"<p><b><table><td><p><i></p>a</table></p>b", "p(b) table(tbody(tr(td(p(i) i('a'))))) p b('b')"},
		{"<p><b id=a></b><i></p>c", "p(b[id=a] i) i('c')"},
	}.check(t, body)
}

func TestHTMLAndBodyOnceMore(t *testing.T) {
	cases{
		{"a<html b=c><html b=d e=f>", "html[b=c][e=f](head body('a'))"},
		{"a<html b=c d=e f=g><html d=x h=i>", "html[b=c][d=e][f=g][h=i](head body('a'))"},
		{"a<body b=c><body b=d e=f>", "html(head body[b=c][e=f]('a'))"},
		{"<body a=b><p><body a=c d=e>", "html(head body[a=b][d=e](p))"},
		{"<template><html a=b><body c=d></template>", "html(head(template) body)"},
		{"<body><template><html a=b><body c=d></template>", "html(head body(template))"},
	}.check(t, page)
}

func TestTagsOfTheHead(t *testing.T) {
	cases{
		{"a<base><basefont><bgsound><link><meta>b", "'a' base basefont bgsound link meta 'b'"},
		{"<p><b></p><meta>a", "p(b) meta b('a')"},
		{"<p><title>a<b>&amp;</title>c", "p(title('a<b>&') 'c')"},
		{"<p><noframes>a<b>&amp;</noframes><script>a<b></script><style>a<b></style>c", "p(noframes('a<b>&amp;') script('a<b>') style('a<b>') 'c')"},
		{"<p><template><td>a</template>b", "p(template(td('a')) 'b')"},
	}.check(t, body)
}

func TestHeadings(t *testing.T) {
	cases{
		{"<h1>a<h2>b", "h1('a') h2('b')"},
		{"<h2>a<h1>b", "h2('a') h1('b')"},
		{"<h3>a<h3>b<h4>c<h5>d<h6>e<h1>f", "h3('a') h3('b') h4('c') h5('d') h6('e') h1('f')"},
		{"<h1>a<p>b<h2>c", "h1('a' p('b')) h2('c')"},
		{"<h1><b><h2>a", "h1(b(h2('a')))"},
		{"<h1><div><h2>a", "h1(div(h2('a')))"},
		{"<p>a<h3>b", "p('a') h3('b')"},
		{"<p><button><h1>a", "p(button(h1('a')))"},
	}.check(t, body)
}

// A newline right behind the start of such an element isn't meant.
func TestNewlines(t *testing.T) {
	cases{
		{"<pre>\na", "pre('a')"},
		{"<pre>\n\na", "pre('\na')"},
		{"<pre>\n", "pre"},
		{"<pre>\n</pre>a", "pre 'a'"},
		{"<pre>&#10;a", "pre('a')"},
		{"<pre>a\nb", "pre('a\nb')"},
		{"<pre> \na", "pre(' \na')"},
		{"<pre><!--c-->\na", "pre(!c '\na')"},
		{"<pre><b>\na", "pre(b('\na'))"},
		{"<pre></pre>\na", "pre '\na'"},
		{"<pre><pre>\na", "pre(pre('a'))"},
		{"<listing>\n\na</listing>\nb", "listing('\na') '\nb'"},
		{"<div>\na", "div('\na')"},
		{"<table><td><pre>\na", "table(tbody(tr(td(pre('a')))))"},
		{"<table><pre>\na", "pre('a') table"},
		{"<svg><desc><pre>\na", "svg:svg(svg:desc(pre('a')))"},
		{"<svg><pre>\na", "svg:svg pre('a')"},
		{"<select><pre>\na", "select('\na')"},
		{"<textarea>\na<b>&amp;</textarea>c", "textarea('a<b>&') 'c'"},
		{"<textarea>\n\na", "textarea('\na')"},
		{"<textarea>a\nb", "textarea('a\nb')"},
		{"<textarea></textarea>\na", "textarea '\na'"},
		{"<title>\na</title>", "title('\na')"},
		{"<xmp>\na</xmp>", "xmp('\na')"},
		{"<pre><!--\na-->\nb", "pre(!\na '\nb')"},
	}.check(t, body)
}

func TestParagraphsThatEnd(t *testing.T) {
	cases{
		{"<p>a<pre>b", "p('a') pre('b')"},
		{"<p>a<listing>b", "p('a') listing('b')"},
		{"<p>a<form>b", "p('a') form('b')"},
		{"<p>a<li>b", "p('a') li('b')"},
		{"<p>a<dd>b", "p('a') dd('b')"},
		{"<p>a<dt>b", "p('a') dt('b')"},
		{"<p>a<hr>b", "p('a') hr 'b'"},
		{"<p>a<h1>b", "p('a') h1('b')"},
		{"<p>a<xmp>b", "p('a') xmp('b')"},
		{"<p>a<plaintext>b", "p('a') plaintext('b')"},
		{"<p>a<table>", "p('a') table"},
		{"<p>a<p>b", "p('a') p('b')"},
		{"<p><b>a<div>b", "p(b('a')) div(b('b'))"},
		{"<p><span>a<div>b", "p(span('a')) div('b')"},
		{"<p><svg><desc>a<div>b", "p(svg:svg(svg:desc('a' div('b'))))"},
		{"<p><button>a<div>b", "p(button('a' div('b')))"},
		{"<p><object>a<p>b", "p(object('a' p('b')))"},
		{"<p><li>a", "p li('a')"},
		{"<p><option>a<p>b", "p(option('a')) p('b')"},
		{"<div><p>a<ul>b", "div(p('a') ul('b'))"},
	}.check(t, body)
}

func TestTablesByQuirks(t *testing.T) {
	cases{
		{"<p>a<table>", "html(head body(p('a' table)))"},
		{"<!doctype x><p>a<table>", "?x html(head body(p('a' table)))"},
		{"<!doctype html><p>a<table>", "?html html(head body(p('a') table))"},
	}.check(t, page)
}

func TestForms(t *testing.T) {
	cases{
		{"<form a=b>a<form>b</form>c</form>d", "form[a=b]('ab') 'cd'"},
		{"<p>a<form>b", "p('a') form('b')"},
		{"<form></form><form>", "form form"},
		{"<form><template><form>a<form>b</form>c</form>d</template></form>e", "form(template(form('a' form('b') 'c') 'd')) 'e'"},
		{"<template><form></template><form>a", "template(form) form('a')"},
		{"<table><form></table><form>a", "table(form) 'a'"},
		{"<p><button><form>a", "p(button(form('a')))"},
	}.check(t, body)
}

func TestItems(t *testing.T) {
	cases{
		{"<li>a<li>b", "li('a') li('b')"},
		{"<ul><li>a<ul><li>b</ul><li>c</ul>", "ul(li('a' ul(li('b'))) li('c'))"},
		{"<li><p>a<li>b", "li(p('a')) li('b')"},
		{"<li><div>a<li>b", "li(div('a')) li('b')"},
		{"<li><address>a<li>b", "li(address('a')) li('b')"},
		{"<li><section>a<li>b", "li(section('a' li('b')))"},
		{"<li><b>a<li>b", "li(b('a')) li(b('b'))"},
		{"<li><span>a<li>b", "li(span('a')) li('b')"},
		{"<li><dd>a<li>b", "li(dd('a' li('b')))"},
		{"<li><svg><desc><li>a", "li(svg:svg(svg:desc(li('a'))))"},
		{"<li><math><mi><li>a", "li(math:math(math:mi(li('a'))))"},
		{"<li><svg><g>a<li>b", "li(svg:svg(svg:g('a'))) li('b')"},
		{"<dd>a<dd>b", "dd('a') dd('b')"},
		{"<dd>a<dt>b<dd>c", "dd('a') dt('b') dd('c')"},
		{"<dt><p>a<dt>b", "dt(p('a')) dt('b')"},
		{"<dd><div>a<dt>b", "dd(div('a')) dt('b')"},
		{"<dd><address>a<dd>b", "dd(address('a')) dd('b')"},
		{"<dd><ul>a<dt>b", "dd(ul('a' dt('b')))"},
		{"<dd><li>a<dt>b", "dd(li('a' dt('b')))"},
		{"<dd><b>a<dt>b", "dd(b('a')) dt(b('b'))"},
		{"<dl><dt>a<dl><dd>b", "dl(dt('a' dl(dd('b'))))"},
	}.check(t, body)
}

func TestPlain(t *testing.T) {
	cases{
		{"<p>a<plaintext>b</plaintext>c<p>&amp;", "p('a') plaintext('b</plaintext>c<p>&amp;')"},
		{"<plaintext>a\x00", "plaintext('a�')"},
		{"<plaintext>\na", "plaintext('\na')"},
		{"<p><b></p><plaintext>a", "p(b) plaintext(b('a'))"},
	}.check(t, body)
}

func TestButtons(t *testing.T) {
	cases{
		{"<button>a<p>b<button>c", "button('a' p('b')) button('c')"},
		{"<button><b>a<button>b", "button(b('a')) b(button('b'))"},
		{"<p><b></p><button>a</p>b", "p(b) b(button('a' p 'b'))"},
		{"<button><table><td><button>a", "button(table(tbody(tr(td(button('a'))))))"},
		{"<button><object><button>a", "button(object(button('a')))"},
		{"<button><ul>a<button>b", "button(ul('a')) button('b')"},
	}.check(t, body)
}

func TestLinks(t *testing.T) {
	cases{
		{"<a x>1<a y>2", "a[x=]('1') a[y=]('2')"},
		{"<a x><b>1<a y>2", "a[x=](b('1')) b(a[y=]('2'))"},
		{"<a x><div>1<a y>2", "a[x=] div(a[x=]('1') a[y=]('2'))"},
		{"<a x><object><a y>1</object>2</a>3", "a[x=](object(a[y=]('1')) '2') '3'"},
		{"<a x><table><a y>1</table>2", "a[x=](a[y=]('1') table) a[y=]('2')"},
		{"<a x><table><a y>1</a>2</a>3", "a[x=](a[y=]('1') '23' table)"},
		{"<a x><marquee><a y>1</a>2</a>3", "a[x=](marquee(a[y=]('1') '23'))"},
		{"<p><a x></p><a y>1", "p(a[x=]) a[y=]('1')"},
		{"<a x><p><a y>1</p>2", "a[x=] p(a[x=] a[y=]('1')) a[y=]('2')"},
		{"<p><b></p><a>1", "p(b) b(a('1'))"},
	}.check(t, body)
}

func TestNobrs(t *testing.T) {
	cases{
		{"<nobr>1<nobr>2", "nobr('1') nobr('2')"},
		{"<nobr><b>1<nobr>2", "nobr(b('1')) b(nobr('2'))"},
		{"<p><nobr></p><nobr>1", "p(nobr) nobr nobr('1')"},
		{"<nobr><table><td><nobr>1", "nobr(table(tbody(tr(td(nobr('1'))))))"},
		{"<nobr><div>1<nobr>2", "nobr div(nobr('1') nobr('2'))"},
		{"<nobr><div>1<nobr>2</div>3", "nobr div(nobr('1') nobr('2')) nobr('3')"},
		{"<nobr><button>1<nobr>2", "nobr button(nobr('1') nobr('2'))"},
		{"<nobr><ul>1<nobr>2", "nobr ul(nobr('1') nobr('2'))"},
		{"<nobr><object>1<nobr>2", "nobr(object('1' nobr('2')))"},
		{"<nobr><svg><desc>1<nobr>2", "nobr(svg:svg(svg:desc('1' nobr('2'))))"},
	}.check(t, body)
}

func TestMarkers(t *testing.T) {
	cases{
		{"<b><applet><i>a</applet>c", "b(applet(i('a')) 'c')"},
		{"<b><marquee><i>a</marquee>c", "b(marquee(i('a')) 'c')"},
		{"<b><object><i>a</object>c", "b(object(i('a')) 'c')"},
		{"<p><b></p><object>a", "p(b) b(object('a'))"},
		{"<p><b></p><applet>a", "p(b) b(applet('a'))"},
		{"<b><object></b>a", "b(object('a'))"},
		{"<p><b><object><p><i></p>a</object></p>b", "p(b(object(p(i) i('a')))) b('b')"},
		{"<p><b><template><i>a</template></p>c", "p(b(template(i('a')))) b('c')"},
		{"<p><b></p><template>a</template>b", "p(b) template('a') b('b')"},
	}.check(t, body)
}

func TestAloneInBody(t *testing.T) {
	cases{
		{"<p>a<hr b=c>d", "p('a') hr[b=c] 'd'"},
		{"<p><b></p><hr>", "p(b) hr"},
		{"<p><button><hr>a", "p(button(hr 'a'))"},
		{"<p><b></p><image a=b>c", "p(b) b(img[a=b] 'c')"},
		{"<p>a<image/>b</image>c", "p('a' img 'bc')"},
		{"<p><b></p><input type=hidden>", "p(b) b(input[type=hidden])"},
	}.check(t, body)
}

func TestTextsWithin(t *testing.T) {
	cases{
		{"<p><b></p><textarea>a</textarea>b", "p(b) textarea('a') b('b')"},
		{"<p><textarea>a</textarea>b", "p(textarea('a') 'b')"},
		{"<p>a<xmp>b<i>&amp;</xmp>c", "p('a') xmp('b<i>&amp;') 'c'"},
		{"<p><b></p><xmp>a</xmp>", "p(b) b(xmp('a'))"},
		{"<p>a<iframe>b<i>&amp;</iframe>c", "p('a' iframe('b<i>&amp;') 'c')"},
		{"<p><b></p><iframe>a</iframe>b", "p(b) iframe('a') b('b')"},
		{"<p>a<noembed>b<i>&amp;</noembed>c", "p('a' noembed('b<i>&amp;') 'c')"},
		{"<p><b></p><noembed>a</noembed>b", "p(b) noembed('a') b('b')"},
		{"<noscript><b>a", "noscript(b('a'))"},
	}.check(t, body)
}

func TestOptions(t *testing.T) {
	cases{
		{"<option>a<option>b", "option('a') option('b')"},
		{"<option>a<optgroup>b", "option('a') optgroup('b')"},
		{"<option><b><option>a", "option(b(option('a')))"},
		{"<option>a<p>b<option>c", "option('a' p('b' option('c')))"},
		{"<optgroup>a<option>b<optgroup>c", "optgroup('a' option('b') optgroup('c'))"},
		{"<optgroup><optgroup>", "optgroup(optgroup)"},
		{"<p><b></p><option>a", "p(b) b(option('a'))"},
		{"<p><b></p><select>a", "p(b) b(select('a'))"},
		{"<select>a<tr>b", "select('ab')"},
	}.check(t, body)
}

func TestRubies(t *testing.T) {
	cases{
		{"<ruby>a<rb>b<rtc>c<rt>d<rp>e<rb>f", "ruby('a' rb('b') rtc('c' rt('d') rp('e')) rb('f'))"},
		{"<ruby>a<rp>b<rt>c<rtc>d<rb>e", "ruby('a' rp('b') rt('c') rtc('d') rb('e'))"},
		{"<ruby><rtc>a<rtc>b", "ruby(rtc('a') rtc('b'))"},
		{"<ruby><rtc>a<rp>b<rtc>c", "ruby(rtc('a' rp('b')) rtc('c'))"},
		{"<rb>a<rt>b<rtc>c<rp>d", "rb('a' rt('b' rtc('c' rp('d'))))"},
		{"<ruby><p>a<rt>b", "ruby(p('a') rt('b'))"},
		{"<ruby><p>a<rb>b", "ruby(p('a') rb('b'))"},
		{"<ruby><table><td><rb>a<rt>b", "ruby(table(tbody(tr(td(rb('a' rt('b')))))))"},
		{"<ruby><p><b></p><rt>a", "ruby(p(b) rt(b('a')))"},
		{"<ruby><rtc><p>a<rt>b", "ruby(rtc(p('a') rt('b')))"},
		{"<ruby><button><p>a<rt>b", "ruby(button(p('a') rt('b')))"},
		{"<ruby><ul><p>a<rt>b", "ruby(ul(p('a') rt('b')))"},
		{"<ruby><object><p>a<rt>b", "ruby(object(p('a' rt('b'))))"},
		{"<ruby><button><p>a<rb>b", "ruby(button(p('a') rb('b')))"},
		{"<ruby><object><p>a<rb>b", "ruby(object(p('a' rb('b'))))"},
	}.check(t, body)
}

func TestOtherSpaces(t *testing.T) {
	cases{
		{"<p><b></p><svg><g>a", "p(b) b(svg:svg(svg:g('a')))"},
		{"<p><b></p><math>a", "p(b) b(math:math('a'))"},
		{"<svg/>a", "svg:svg 'a'"},
		{"<math/>a", "math:math 'a'"},
		{"<svg a=b viewbox=1 definitionurl=2>", "svg:svg[a=b][viewBox=1][definitionurl=2]"},
		{"<math a=b viewbox=1 definitionurl=2>", "math:math[a=b][viewbox=1][definitionURL=2]"},
	}.check(t, body)
}

func TestOtherStarts(t *testing.T) {
	cases{
		{"<foo a=b>c</foo>d", "foo[a=b]('c') 'd'"},
		{"<foo/>a", "foo('a')"},
		{"<p><b></p><foo>c", "p(b) b(foo('c'))"},
		{"<p>a<foo>b", "p('a' foo('b'))"},
		{"<p><b></p><span>c", "p(b) b(span('c'))"},
		{"<noscript>a<p>b", "noscript('a' p('b'))"},
	}.check(t, body)
}
