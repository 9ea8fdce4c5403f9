package lex_test

import (
	"strings"
	"testing"

	"woodcut/lex"
)

// P9.7

type rawReading struct {
	name string
	reading
}

// checkRaw reads texts in a way, up to the end of an element.
func checkRaw(t *testing.T, way int, cases []rawReading) {
	t.Helper()
	for _, c := range cases {
		if got := read(in(c.in, way, c.name)); !same(got, c.want) {
			t.Errorf("way %d, %q, %q:\n got %+v\nwant %+v", way, c.name, c.in, got, c.want)
		}
	}
}

// endings is what RCData, RawText and Script have in common.
var endings = []rawReading{
	{"t", reading{"", nil}},
	{"t", reading{"a<b>c</b><?d></>", list(text("a<b>c</b><?d></>"))}},
	{"t", reading{"a</t>", list(text("a"), end("t"))}},
	{"t", reading{"</t>", list(end("t"))}},
	{"t", reading{"</t></t><t>", list(end("t"), end("t"), start("t"))}},
	{"t", reading{"a</t>b<c>&amp;\x00", list(text("a"), end("t"), text("b"), start("c"), text("&\x00"))}},
	{"t", reading{"a</T>b", list(text("a"), end("t"), text("b"))}},
	{"T", reading{"a</t>b", list(text("a"), end("t"), text("b"))}},
	{"tEXT", reading{"a</TexT>b", list(text("a"), end("text"), text("b"))}},
	{"t", reading{"a</t b='>' c/>d", list(text("a"), end("t"), text("d"))}},
	{"t", reading{"a</t/>b", list(text("a"), end("t"), text("b"))}},
	{"t", reading{"a</t\n>b", list(text("a"), end("t"), text("b"))}},
	{"t", reading{"a</t\f>b", list(text("a"), end("t"), text("b"))}},
	{"t", reading{"a</t", list(text("a</t"))}},
	{"t", reading{"a</", list(text("a</"))}},
	{"t", reading{"a<", list(text("a<"))}},
	// The input ends within the tag.
	{"t", reading{"a</t ", list(text("a"))}},
	{"t", reading{"a</t/", list(text("a"))}},
	{"t", reading{"a</t b='>", list(text("a"))}},
	{"t", reading{"a</ t></tt></u></t<></t-></t\x00>", list(text("a</ t></tt></u></t<></t-></t\ufffd>"))}},
	{"tt", reading{"</t></tt>", list(text("</t>"), end("tt"))}},
	{"t", reading{"<</t>", list(text("<"), end("t"))}},
	{"t", reading{"</</t>", list(text("</"), end("t"))}},
	{"t", reading{"</x</t>", list(text("</x"), end("t"))}},
	{"t", reading{"</t</t>", list(text("</t"), end("t"))}},
	{"t", reading{"a\x00b", list(text("a\ufffdb"))}},
	{"t", reading{"<![CDATA[a]]><!doctype>", list(text("<![CDATA[a]]><!doctype>"))}},
	{"h1", reading{"</h2></H1>", list(text("</h2>"), end("h1"))}},
	{"a-é", reading{"</a-É></A-é>", list(text("</a-É>"), end("a-é"))}},
	{"a\ufffd", reading{"</a\x00>b", list(end("a\ufffd"), text("b"))}},
	// No tag has such a name.
	{"", reading{"</></ ></t>", list(text("</></ ></t>"))}},
	{"1", reading{"</1>", list(text("</1>"))}},
	{"é", reading{"</é>", list(text("</é>"))}},
	{"a b", reading{"</a b></a>", list(text("</a b></a>"))}},
	{"a/", reading{"</a/></a//>", list(text("</a/></a//>"))}},
	{"a>", reading{"</a>></a>", list(text("</a>></a>"))}},
	{"a\n", reading{"</a\n>", list(text("</a\n>"))}},
}

func TestEndings(t *testing.T) {
	for _, way := range []int{lex.RCData, lex.RawText, lex.Script} {
		checkRaw(t, way, endings)
	}
}

func TestRCData(t *testing.T) {
	checkRaw(t, lex.RCData, []rawReading{
		{"t", reading{"&lt;/t>&amp;</t>", list(text("</t>&"), end("t"))}},
		{"t", reading{"&am</t>p;", list(text("&am"), end("t"), text("p;"))}},
		{"t", reading{"&ampx=&notit;", list(text("&x=\u00acit;"))}},
		{"t", reading{"<!--</t>", list(text("<!--"), end("t"))}},
		{"t", reading{"&#0;\x00", list(text("\ufffd\ufffd"))}},
	})
}

func TestRawText(t *testing.T) {
	checkRaw(t, lex.RawText, []rawReading{
		{"t", reading{"&lt;/t>&amp;</t>", list(text("&lt;/t>&amp;"), end("t"))}},
		{"script", reading{"<!--<script></script>", list(text("<!--<script>"), end("script"))}},
	})
}

func TestPlain(t *testing.T) {
	checkRaw(t, lex.Plain, []rawReading{
		{"t", reading{"a</t><b>&amp;<!--\x00", list(text("a</t><b>&amp;<!--\ufffd"))}},
		{"", reading{"", nil}},
		{"script", reading{"</script>", list(text("</script>"))}},
	})
}

func TestSectionsOnlyInData(t *testing.T) {
	l := in("<![CDATA[a]]></t><![CDATA[b]]>", lex.RCData, "t")
	l.Sections(true)
	if got := read(l); !same(got, list(text("<![CDATA[a]]>"), end("t"), text("b"))) {
		t.Errorf("%+v", got)
	}
}

// The texts of scripts, ahead of an end tag and a c.
func TestScript(t *testing.T) {
	for _, data := range []string{
		"a<b>&amp;",
		"<script>",
		"<!-->",
		"<!--->",
		"<!---->",
		"<!--a-->",
		"<!--a",
		"<!--a--",
		"<!-",
		"<!- <script>",
		"<!--><script>",
		"<!---><script>",
		"<!----><script>",
		"<!--a--><script>",
		"<!--<scriptx>",
		"<!--<scripts ",
		"<!--<script",
		"<!--<script-->",
		"<!--<scrip>",
		"<!--< script>",
		"<!--</scriptx>",
		"<!--<script></script>",
		"<!--<script></script>-->",
		"<!--<SCRIPT ></Script\n>",
		"<!--<script/</script/",
		"<!--<script>a</scriptx></script >",
		"<!--<script>a</script></scriptx><script></script>",
		"<!--<script><script></script>",
		"<!--<script>-->",
		"<!--<script --><script>",
		"<!--<script></script-->",
		"<!--<script>a--->b<script>",
		"<!--<script>a--><!--<script></script>",
		"<!--a<!-->b<script>",
		"<!--a-- ><!-- -->b<script>",
		"<!--<!--<script></script>-->",
		"\x01<!--\u00e9<script>\u00e9</script>",
	} {
		s := data + "</script>c"
		if got := read(in(s, lex.Script, "script")); !same(got, list(text(data), end("script"), text("c"))) {
			t.Errorf("%q: %+v", s, got)
		}
	}
}

func TestScriptThatHidesItsEnd(t *testing.T) {
	for _, s := range []string{
		"<!--<script></script>",
		"<!--<script ></script>--",
		"<!--<script/></script>a",
		"<!--<script>a",
		"<!--<script>--</script>",
		"<!--<script></script><script></script>",
		"<!--a->b<script>-></script>",
		"<!--<script><!--</script>",
		"<!--<script></SCRIPT",
		"<!--<script></script",
		"<!--",
		"<!--</script",
	} {
		if got := read(in(s, lex.Script, "script")); !same(got, list(text(s))) {
			t.Errorf("%q: %+v", s, got)
		}
	}
}

func TestScriptOfAnotherName(t *testing.T) {
	checkRaw(t, lex.Script, []rawReading{
		{"t", reading{"</script><!--</script></t>", list(text("</script><!--</script>"), end("t"))}},
		{"t", reading{"<!--<t></t>", list(text("<!--<t>"), end("t"))}},
		{"t", reading{"<!--<script></t></script></t>", list(text("<!--<script></t></script>"), end("t"))}},
		{"t", reading{"<!--<script></t>--></t>", list(text("<!--<script></t>-->"), end("t"))}},
		{"t--", reading{"<!--</t-->a", list(text("<!--"), end("t--"), text("a"))}},
	})
}

func TestScriptZero(t *testing.T) {
	const s = "\x00<!--\x00<script>\x00</script\x00></script>--\x00>"
	if got := read(in(s, lex.Script, "script")); !same(got, list(text(strings.ReplaceAll(s, "\x00", "\ufffd")))) {
		t.Errorf("%+v", got)
	}
}
