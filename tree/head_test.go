package tree_test

import (
	"testing"

	"woodcut/dom"
)

// P12.4: the modes from initial to after head

func TestInitial(t *testing.T) {
	cases{
		{" \t\n\f\r<!--a--> <!--b--><!doctype html>", "!a !b ?html html(head body)"},
		{"x", "html(head body('x'))"},
		{" x", "html(head body('x'))"},
		{"\x00x", "html(head body('x'))"},
		{"&#13; x", "html(head body('x'))"},
		{"<!doctype html>", "?html html(head body)"},
		{"<!doctype>", "? html(head body)"},
		{"<!doctype foo>", "?foo html(head body)"},
		{"<!DOCTYPE HTML>", "?html html(head body)"},
		{"<!doctype html><!doctype foo>", "?html html(head body)"},
		{"<p><!doctype html>", "html(head body(p))"},
		{"</p>", "html(head body)"},
	}.check(t, page)
}

func TestBeforeHTML(t *testing.T) {
	cases{
		{"<!doctype html> \n<!--a--> <!--b-->", "?html !a !b html(head body)"},
		{"<html a=b>", "html[a=b](head body)"},
		{"<html a=b><!--c-->", "html[a=b](!c head body)"},
		{"<!doctype html>\n x", "?html html(head body('x'))"},
		{"<!doctype html></p></div></table></br>x", "?html html(head body(br 'x'))"},
		{"</p></div></table></br>x", "html(head body(br 'x'))"},
		{"</head>x", "html(head body('x'))"},
		{"</body>x", "html(head body('x'))"},
		{"</html><!--c-->", "html(head body) !c"},
		{"<head a=b>", "html(head[a=b] body)"},
		{"<body a=b>c", "html(head body[a=b]('c'))"},
		{"<title>a</title>", "html(head(title('a')) body)"},
		{"<p>a", "html(head body(p('a')))"},
		{"<!doctype html><!doctype x><!--c-->", "?html !c html(head body)"},
		{"</p></div><!--c-->", "!c html(head body)"},
		{"</head><!--c-->", "html(head !c body)"},
		{"</body><!--c-->", "html(head body !c)"},
		{"</br><!--c-->", "html(head body(br !c))"},
	}.check(t, page)
}

func TestBeforeHead(t *testing.T) {
	cases{
		{"<html a=b> \n<!--a--><!doctype x><html b=c></p></div><head d=e>", "html[a=b][b=c](!a head[d=e] body)"},
		{"<html a=b><html a=c d=e>", "html[a=b][d=e](head body)"},
		{"<html></head>x", "html(head body('x'))"},
		{"<html></body>x", "html(head body('x'))"},
		{"<html></html><!--c-->", "html(head body) !c"},
		{"<html></br>x", "html(head body(br 'x'))"},
		{"<html> x", "html(head body('x'))"},
		{"<html><body a=b>c", "html(head body[a=b]('c'))"},
		{"<html><title>a</title>", "html(head(title('a')) body)"},
		{"<html></p><!--c-->", "html(!c head body)"},
		{"<html></head><!--c-->", "html(head !c body)"},
		{"<html></body><!--c-->", "html(head body !c)"},
	}.check(t, page)
}

func TestHead(t *testing.T) {
	cases{
		{"<head> \t<!--a--><!doctype x><base><basefont><bgsound><link><meta></head>", "html(head(' \t' !a base basefont bgsound link meta) body)"},
		{"<head> x", "html(head(' ') body('x'))"},
		{"<head><base a=b/><link>", "html(head(base[a=b/] link) body)"},
		{"<head><title>a&amp;<b></title>", "html(head(title('a&<b>')) body)"},
		{"<head><title>a<b></titlex></TITLE >c", "html(head(title('a<b></titlex>')) body('c'))"},
		{"<head><noframes>a<b>&amp;</noframes><style>a&amp;<b></style><meta>", "html(head(noframes('a<b>&amp;') style('a&amp;<b>') meta) body)"},
		{"<head><script>a<!--b</script><meta>", "html(head(script('a<!--b') meta) body)"},
		{"<head><script><!--<script></script>--></script><meta>", "html(head(script('<!--<script></script>-->') meta) body)"},
		{"<head a=b><head c=d><meta>", "html(head[a=b](meta) body)"},
		{"<head></p></div></foo></td><meta>", "html(head(meta) body)"},
		{"<head></br><meta>", "html(head body(br meta))"},
		{"<head></body>x", "html(head body('x'))"},
		{"<head></html><!--c-->", "html(head body) !c"},
		{"<head>a b", "html(head body('a b'))"},
		{"<head><p>a", "html(head body(p('a')))"},
		{"<head><noscript><meta>", "html(head body(noscript(meta)))"},
		{"<head><html a=b><meta>", "html[a=b](head(meta) body)"},
		{"<head><template>a</template><meta>", "html(head(template('a') meta) body)"},
		{"<head><template><meta><p>a</template><meta>", "html(head(template(meta p('a')) meta) body)"},
		{"<head></template><meta>", "html(head(meta) body)"},
		{"<head></p><!--c-->", "html(head(!c) body)"},
		{"<head><head> <!--c-->", "html(head(' ' !c) body)"},
		{"<head></template><!--c-->", "html(head(!c) body)"},
		{"<head></head><!--c-->", "html(head !c body)"},
		{"<head></body><!--c-->", "html(head body !c)"},
	}.check(t, page)
}

func TestAfterHead(t *testing.T) {
	cases{
		{"<head></head> <!--a--><!doctype x><html a=b><body c=d>", "html[a=b](head ' ' !a body[c=d])"},
		{"<head></head> x", "html(head ' ' body('x'))"},
		{"<head></head><title>a</title><meta> <body>", "html(head(title('a') meta) ' ' body)"},
		{"<head></head><template>a<p>b</template><link>x", "html(head(template('a' p('b')) link) body('x'))"},
		{"<head></head><style>a</style><base><noframes>b</noframes><script>c</script><basefont><bgsound>", "html(head(style('a') base noframes('b') script('c') basefont bgsound) body)"},
		{"<head></head><title>a</title></head><head><title>b</title>", "html(head(title('a') title('b')) body)"},
		{"<head></head></template><meta>", "html(head(meta) body)"},
		{"<head></head><head><meta>", "html(head(meta) body)"},
		{"<head></head></head></p></td><meta>x", "html(head(meta) body('x'))"},
		{"<head></head></br>x", "html(head body(br 'x'))"},
		{"<head></head></body>x", "html(head body('x'))"},
		{"<head></head></html><!--c-->", "html(head body) !c"},
		{"<head></head>x<meta>", "html(head body('x' meta))"},
		{"<head></head><p>a", "html(head body(p('a')))"},
		{"<head></head><frameset><meta>", "html(head body(meta))"},
		{"<head></head><frame><meta>", "html(head body(meta))"},
		{"<head a=b></head><meta><body c=d>e<body f=g>", "html(head[a=b](meta) body[c=d][f=g]('e'))"},
		{"<head></head></p><!--c-->", "html(head !c body)"},
		{"<head></head></head><head></template><!--c-->", "html(head !c body)"},
		{"<head></head></body><!--c-->", "html(head body !c)"},
		{"<head></head><frameset><!--c-->", "html(head body(!c))"},
	}.check(t, page)
}

func TestEndOfTemplates(t *testing.T) {
	cases{
		{"x</template>y", "'xy'"},
		{"<template>a</template></template>b", "template('a') 'b'"},
		{"<template><p>a</template>b", "template(p('a')) 'b'"},
		{"<template><li><div></template>a", "template(li(div)) 'a'"},
		{"<template><option><p></template>a", "template(option(p)) 'a'"},
		{"<template><table><tr><td></template>a", "template(table(tbody(tr(td)))) 'a'"},
		{"<template><td><b>a</template>b", "template(td(b('a'))) 'b'"},
		{"x<b><template><i>a</template>c", "'x' b(template(i('a')) 'c')"},
		{"<b><template></b>a</template>b", "b(template('a') 'b')"},
		{"<template><template>a</template>b</template>c", "template(template('a') 'b') 'c'"},
		{"<table><td><template><tr><td>a</template>b<td>c", "table(tbody(tr(td(template(tr(td('a'))) 'b') td('c'))))"},
		{"<table><template><td>a</template><td>b", "table(template(td('a')) tbody(tr(td('b'))))"},
	}.check(t, body)
}

func TestQuirks(t *testing.T) {
	for in, want := range map[string]bool{
		"":                                  true,
		"x":                                 true,
		"<!--a-->":                          true,
		"<html>":                            true,
		"<html><!doctype html>":             true,
		"<!doctype html>":                   false,
		" <!--a--> <!DOCTYPE HtMl >x":       false,
		"<!doctype html><!doctype x>":       false,
		"<!doctype html><p><!doctype>":      false,
		"<!doctype>":                        true,
		"<!doctype x>":                      true,
		"<!doctype htm>":                    true,
		"<!doctype html x>":                 true,
		"<!doctype html public>":            true,
		"<!doctype html public 'a'>":        false,
		"<!doctype html public 'a' 'b'>":    false,
		"<!doctype html system 'b'>":        false,
		"<!doctype x public 'a' 'b'>":       true,
		"<!doctype html":                    true,
		"<!doctype html public 'a":          true,
		"<!doctype html public 'html 3.2'>": false,
	} {
		if d := parsed(t, in); d.Quirks != want {
			t.Errorf("%q: Quirks %v", in, d.Quirks)
		}
	}
}

func TestDoctypes(t *testing.T) {
	for in, want := range map[string]dom.Node{
		"<!doctype html>":                {Name: "html"},
		"<!doctype A public 'b' \"C\">":  {Name: "a", Public: "b", System: "C"},
		"<!doctype html system 'c'>x":    {Name: "html", System: "c"},
		"<!doctype html public 'b'><p>":  {Name: "html", Public: "b"},
		"<!doctype><!doctype html>":      {},
		"<!--a--><!doctype b><!doctype>": {Name: "b"},
	} {
		d := parsed(t, in)
		found := 0
		for n := range d.Walk(dom.Root) {
			if x := d.Nodes[n]; x.Kind == dom.Doctype {
				found++
				if x.Name != want.Name || x.Public != want.Public || x.System != want.System || x.Up != dom.Root || x.Data != "" {
					t.Errorf("%q: %+v", in, x)
				}
			}
		}
		if found != 1 {
			t.Errorf("%q: %d doctypes", in, found)
		}
	}
}
