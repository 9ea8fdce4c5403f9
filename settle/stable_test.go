package settle_test

import (
	"strings"
	"testing"
)

// P13.1, of pages; those that are stable come back, P13.2

const (
	runs     = "a abbr b bdi bdo cite code data del dfn em i ins kbd mark q s samp small span strong sub sup time u var"
	runVoids = "br img wbr"
	flows    = "address article aside blockquote details div figcaption figure footer header main nav section summary"
	lines    = "h1 h2 h3 h4 h5 h6 p pre"
	cells    = "td th"
	sections = "thead tbody tfoot"
	strange  = "acronym applet area audio basefont bgsound big blink button canvas center command datalist dialog dir embed fieldset " +
		"fill font form hgroup iframe include input keygen label legend listing map marquee math menu meter nobr noembed noframes " +
		"noscript object optgroup option output param picture plaintext progress rb rp rt rtc ruby script search select slot " +
		"source strike style svg template textarea title track tt video xmp link meta base li dd dt h7 x x-y"
)

func TestExample(t *testing.T) {
	settled(t, "<!DOCTYPE html><p>a", true)
}

func TestElementsOfTheBody(t *testing.T) {
	all := runs + " " + flows + " " + lines
	each(t, all, today+"<body><NAME></NAME>", true)
	each(t, all, today+"<body>a<NAME>b<!--c--><i>d</i>e</NAME>f", true)
	each(t, all, today+"<body><NAME a b=c>d", true)
	each(t, all, today+"<body><NAME a,b>c", false)
	each(t, runVoids+" hr", today+"<body>a<NAME>b", true)
	each(t, runVoids+" hr", today+"<body><NAME a-b=c>", true)
	each(t, runVoids+" hr", today+"<body><NAME a'=c>", false)
	each(t, strange, today+"<body><NAME>", false)
	each(t, strange, today+"<body><div>a<b><NAME></NAME></b></div>", false)
}

func TestWhatStandsInRuns(t *testing.T) {
	each(t, runs+" "+runVoids, today+"<body><span>a<NAME>b</span>", true)
	each(t, flows+" "+lines+" hr table ol ul dl", today+"<body><span>a<NAME>b</span>", false)
	each(t, runs+" "+runVoids, today+"<p>a<NAME>b</p>", true)
	each(t, strings.Replace(flows, "div", "", 1)+" pre hr", today+"<body><h1>a<NAME>b", false)
	for in, want := range map[string]bool{
		"<b><i><u><s>a</s></u></i></b>":                              true,
		"<b><b><b><b><b>a</b>b</b>c</b>d</b>e</b>f":                  true,
		"<b><b><b><b><b>a</b>b<b>c</b></b></b><b>d":                  true,
		"<p><b>1<b>2<b>3<b>4</b></b></b></b><b>5</b></p><p>6":        true,
		"<b>1<p>2</b>3</p>":                                          true,
		"<b>1<i>2</b>3</i>":                                          true,
		"<p><b>1<p>2":                                                true,
		"<a>1<a>2</a>3</a>":                                          true,
		"<a>1<b>2<a>3":                                               true,
		"<a>1<table><tr><td><a>2":                                    false,
		"<a><div>1</div></a>":                                        false,
		"<code>a<ins>b</code>c</ins>":                                true,
		"<a href=a><img src=b alt='c&quot;&lt;&amp;&nbsp;'></a><br>": true,
	} {
		settled(t, today+"<body>"+in, want)
	}
}

func TestWhatStandsInFlows(t *testing.T) {
	for _, up := range []string{"<div>", "<ol><li>", "<dl><dd>", "<dl><dt>", "<table><tr><td>", "<table><tr><th>"} {
		each(t, runs+" "+flows+" "+lines+" ol ul dl table", today+"<body>"+up+"a<NAME></NAME><!--b-->", true)
		each(t, runVoids+" hr", today+"<body>"+up+"a<NAME>b", true)
		each(t, strange, today+"<body>"+up+"<p>a</p><section><NAME></section>", false)
	}
	each(t, flows, today+"<body><NAME>a<div>b<p>c</p></div><NAME>d</NAME><!--e--></NAME>f", true)
	each(t, flows, today+"<body><NAME><p>a</p><form></form></NAME>", false)
}

func TestPre(t *testing.T) {
	for in, want := range map[string]bool{
		"<pre>":                  true,
		"<pre>a\n":               true,
		"<pre>\na":               true,
		"<pre>\n\na":             false,
		"<pre>\n\n":              false,
		"<pre>&#10;a":            true, // the newline goes, whatever it was written as
		"<pre>&#10;&#10;a":       false,
		"<pre>\n<b>\na</b>":      true,
		"<pre><b>\n\na</b>":      true,
		"<pre>a<b>b</b>\n\nc":    true,
		"<pre> \na":              true,
		"<pre><!--\n-->a":        false,
		"<pre><!--a-->\n\nb":     true,
		"<pre><br>\n":            true,
		"<pre>a<div>b":           false,
		"<p>\n\na<pre>b</pre>\n": true,
	} {
		settled(t, today+"<body>"+in, want)
	}
}

func TestLists(t *testing.T) {
	each(t, "ol ul", today+"<body><NAME></NAME>", true)
	each(t, "ol ul", today+"<body><NAME><li>a<li><p>b</p>c<NAME><li a=b>d</NAME>e</NAME>f", true)
	each(t, "ol ul", today+"<body><NAME>a</NAME>", false)
	each(t, "ol ul", today+"<body><NAME> </NAME>", false)
	each(t, "ol ul", today+"<body><NAME> <li>a</li></NAME>", false)
	each(t, "ol ul", today+"<body><NAME><!--a--></NAME>", false)
	each(t, "ol ul", today+"<body><NAME><b></b></NAME>", false)
	each(t, "ol ul", today+"<body><NAME><dt></dt></NAME>", false)
	each(t, "ol ul", today+"<body><NAME><li></li><NAME></NAME></NAME>", false)
	each(t, "ol ul", today+"<body><NAME><li a,b>a</NAME>", false)
	each(t, "ol ul", today+"<body><NAME><li><form>a</NAME>", false)
	each(t, "ol ul", today+"<body><NAME a,b></NAME>", false)
	for in, want := range map[string]bool{
		"<dl></dl>":                              true,
		"<dl><dt>a<dd>b<dd>c<dt>d</dl>e":         true,
		"<dl><dd a=b><p>a<dl><dt><ol></dl></dl>": true,
		"<dl><dt a,b>a</dl>":                     false,
		"<dl><dd a,b>a</dl>":                     false,
		"<dl><dt><center></dl>":                  false,
		"<dl>a</dl>":                             false,
		"<dl> <dt>a</dl>":                        false,
		"<dl><!--a--></dl>":                      false,
		"<dl><li>a</dl>":                         false,
		"<dl><div><dt>a</div></dl>":              false,
		"<dl a,b></dl>":                          false,
		"<div><li>a</div>":                       false,
		"<div><dt>a</div>":                       false,
	} {
		settled(t, today+"<body>"+in, want)
	}
}

func TestTables(t *testing.T) {
	for in, want := range map[string]bool{
		"<table></table>":                                                 true,
		"<table a=b></table>":                                             true,
		"<table a,b></table>":                                             false,
		"<table><tr></table>a":                                            true,
		"<table><tr><td>a<th>b<tr></table>":                               true,
		"<table><tbody><tfoot><tr><td></table>":                           true,
		"<table><thead a=b><tr c=d><th e=f>a</table>":                     true,
		"<table><tr><td><table><tr><td>a</table>b<p>c</table>d":           true,
		"<table><tr><td><ul><li><table><tbody></table></ul><h1>a</table>": true,
		"<p>a<table></table>":                                             true,
		"<table>a</table>":                                                true, // what isn't meant for a table stands ahead of it
		"<table><tr><td><b>a</td></table>":                                true,
		"<table> </table>":                                                false,
		"<table><tr> </table>":                                            false,
		"<table><!--a--></table>":                                         false,
		"<table><tbody><!--a--></table>":                                  false,
		"<table><tr><!--a--></table>":                                     false,
		"<table><tr><td><!--a--></table>":                                 true,
		"<table><caption>a</table>":                                       false,
		"<table><colgroup></table>":                                       false,
		"<table><col></table>":                                            false,
		"<table><style></style></table>":                                  false,
		"<table><input type=hidden></table>":                              false,
		"<table><tr><template></template></table>":                        false,
		"<table><tr><td><label></table>":                                  false,
	} {
		settled(t, today+"<body>"+in, want)
	}
	each(t, sections, today+"<body><table><NAME></table>", true)
	each(t, sections, today+"<body><table><NAME a,b></table>", false)
	each(t, sections, today+"<body><table><NAME> </table>", false)
	each(t, sections, today+"<body><table><NAME><tr a,b></table>", false)
	each(t, cells, today+"<body><table><tr><NAME>a<div>b</NAME></table>", true)
	each(t, cells, today+"<body><table><tr><NAME a,b></table>", false)
}

func TestHeads(t *testing.T) {
	each(t, "meta link base", today+"<NAME>", true)
	each(t, "meta link base", today+"<NAME a=b c>", true)
	each(t, "meta link base", today+"<NAME a.b>", false)
	each(t, "title style", today+"<NAME></NAME>", true)
	each(t, "title style", today+"<NAME>a&b</NAME>", true)
	each(t, "title style", today+"<NAME>\n\na\n</NAME>", true)
	each(t, "title style", today+"<NAME>a</NAME><NAME>b", true)
	each(t, "title style", today+"<NAME a=b>", true)
	each(t, "title style", today+"<NAME a.b>", false)
	each(t, "basefont bgsound noframes script template", today+"<NAME>", false)
	for in, want := range map[string]bool{
		"<head></head>":                               true,
		"<head> \t\n\f</head>":                        true,
		"<head> <meta> <!--a--> <title>b</title> ":    true,
		"<head>&#13;</head>":                          false,
		"<head><meta>&#32;</head>":                    true,
		"<!--a--><head>":                              false,
		"<head><!--a--><!----></head>":                true,
		"<head><!--a-b--></head>":                     false,
		"<head a=b></head>":                           true,
		"<head a,b></head>":                           false,
		"<title>a<b>c</title>":                        true,
		"<title>a&#13;b</title>":                      false,
		"<title><!--a-b--></title>":                   true,
		"<style>a<b</style>":                          false,
		"<style><!--a--></style>":                     false,
		"<style>a>b & c &lt; \u00a0\"</style>":        true,
		"<style>a</style></head><style>b</style><p>c": true,
	} {
		settled(t, today+in, want)
	}
}

func TestWhatStandsAroundHeadAndBody(t *testing.T) {
	for in, want := range map[string]bool{
		today:                             true,
		"":                                false,
		"<p>a":                            false,
		" " + today:                       true,
		"\ufeff" + today:                  true,
		today + "<html a=b c='&lt;\"'>":   true,
		today + "<html a,b>":              false,
		today + "<body a=b>":              true,
		today + "<body a,b>":              false,
		today + "</head><body>a":          true,
		today + "</head> <body>a":         false,
		today + "</head><!--a--><body>":   false,
		today + "<body>a</body>b":         true,
		today + "<body>a</body></html>\n": true,
		today + "</body><!--a-->":         false,
		today + "</html><!--a-->":         false,
		"<!--a-->" + today:                false,
		today + "<!--a-->":                false,
		today + "<html><!--a-->":          false,
		today + "<frameset>":              true, // it is as if it weren't there
		"<!DOCTYPE HTML>":                 true,
		"<!doctype html >":                true,
		"<!doctype>":                      false,
		"<!doctype htm>":                  false,
		"<!doctype html a>":               false,
		"<!doctype html public ''>":       true, // an identifier without a sign is none
		"<!doctype html public 'a'>":      false,
		"<!doctype html system 'a'>":      false,
		"<!doctype html public '' 'a'>":   false,
		"<!doctype html system 'about:legacy-compat'>": false,
	} {
		settled(t, in, want)
	}
}

func TestAttributes(t *testing.T) {
	for name, want := range map[string]bool{
		"a": true, "z": true, "abc": true, "a0": true, "a9": true, "a-": true, "a_b": true, "a:b": true, "xml:lang": true, "data-a-1": true, "A": true,
		"0": false, "-": false, "_": false, ":": false, "0a": false, "-a": false, "_a": false, ":a": false,
		"a.": false, "a,b": false, "a`": false, "a{": false, "`": false, "{": false, "=": false, "'": false, "a\"b": false, "a<": false, "é": false, "aé": false, "a\x01": false, "a\x00": false, "a\xff": false, "a;": false, "a[": false, "a@": false,
	} {
		settled(t, today+"<p "+name+"=b>", want)
		settled(t, today+"<p a-a=b "+name+">", want)
	}
	for val, want := range map[string]bool{
		"": true, "\n\t\f ": true, "\r": true, "&#13;": false, "a&#13;&#10;": false, "&#0;": true, "\x00": true, "\xff": true, "\ufffd": true, "é\u00a0": true, "&lt;&gt;&quot;&amp;amp;": true, "a<b>c&d": true, "-->": true, "\x01\x7f\u0085": true, "\U0010ffff": true, "\ufeff": true,
	} {
		settled(t, today+"<p a='"+val+"'>", want)
		settled(t, today+"<meta a b='"+val+"'>", want)
	}
}

func TestTexts(t *testing.T) {
	for in, want := range map[string]bool{
		"a": true, " ": true, "\n\n": true, "\r\n": true, "&#13;": false, "a&#13;b": false, "&#0;": true, "\x00": true, "a\x00b": true, "\xff": true, "\ufffd": true, "&lt;b&gt;": true, "&amp;lt;&nbsp;\"'": true, "\x01\x7f\u0085\U0010ffff": true, "\ufeff": true, "-->": true, "</": true,
	} {
		settled(t, today+"<body>"+in, want)
		settled(t, today+"<p>"+in+"</p>", want)
	}
}

func TestComments(t *testing.T) {
	for in, want := range map[string]bool{
		"<!---->": true, "<!-->": true, "<!--a-->": true, "<!--a--!>": true, "<!-- a>b -->": true, "<!--<b>&amp;\n-->": true, "<!--!-->": true, "<?a>": true, "<!a>": true, "</ a>": true,
		"<!--->-->": true, "<!--a-b-->": false, "<!----a-->": false, "<!--a--->": false, "<!-- >-->": true, "<!--\x00-->": true, "<!--\xff-->": true, "<!--\r-->": true, "<?->": false, "<!doctype b>": true, "<!-->-->": true,
	} {
		settled(t, today+"<body>"+in, want)
		settled(t, today+"<head>"+in, want)
		settled(t, today+"<p><b>"+in, want)
	}
}

// Levels are counted from the document's children on: html is the first, body the second.
func TestDepths(t *testing.T) {
	for divs, want := range map[int]bool{0: true, 1: true, 147: true, 148: true, 149: false, 150: false} {
		settled(t, today+"<body>"+strings.Repeat("<div>", divs), want)
	}
	settled(t, today+"<body>"+strings.Repeat("<div>", 147)+"a", true)
	settled(t, today+"<body>"+strings.Repeat("<div>", 148)+"a", false)
	settled(t, today+"<body>"+strings.Repeat("<div>", 148)+"</div><!--a-->", true)
	settled(t, today+"<body>"+strings.Repeat("<div>", 148)+"<!--a-->", false)
	settled(t, today+"<body>"+strings.Repeat("<b>", 148), true)
	settled(t, today+"<body>"+strings.Repeat("<b>", 149), false)
	settled(t, today+"<body>"+strings.Repeat("<table><tr><td>", 37), true)
	settled(t, today+"<body>"+strings.Repeat("<table><tr><td>", 37)+"a", false)
	settled(t, today+"<body><ol><li><ul>"+strings.Repeat("<li><dl><dd><div><p>a</p></div><ol>", 35), true)
}
