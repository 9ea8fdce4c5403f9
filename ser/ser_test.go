package ser_test

import (
	"math/rand"
	"strings"
	"testing"

	"woodcut/ser"
)

// P10.1: Void, Raw

const (
	voids = "area base basefont bgsound br col embed frame hr img input keygen link meta param source track wbr"
	raws  = "style script xmp iframe noembed noframes plaintext"
	// other is names of neither sort, and what isn't quite a name of one.
	other = "html head body p a b template title textarea noscript pre select option table tr td svg math image " +
		"frameset command menuitem isindex hrs h r styles scrip BR Br Style SCRIPT br/ ſource linK"
)

func TestVoidAndRaw(t *testing.T) {
	for _, c := range []struct {
		names     string
		void, raw bool
	}{{voids, true, false}, {raws, false, true}, {other, false, false}} {
		for _, name := range strings.Fields(c.names) {
			if ser.Void(name) != c.void || ser.Raw(name) != c.raw {
				t.Errorf("%q: Void %v, Raw %v", name, ser.Void(name), ser.Raw(name))
			}
		}
	}
}

func TestVoidAndRawOfNoNames(t *testing.T) {
	for _, name := range []string{"", " ", "br ", " br", "br\x00", "style\n", "br hr", voids, raws, "\xff"} {
		if ser.Void(name) || ser.Raw(name) {
			t.Errorf("%q is the name of such an element", name)
		}
	}
}

// P10.1: Text, Value

func TestTextAndValue(t *testing.T) {
	for _, c := range []struct{ s, text, value string }{
		{"", "", ""},
		{"a", "a", "a"},
		{"&", "&amp;", "&amp;"},
		{"<", "&lt;", "&lt;"},
		{">", "&gt;", "&gt;"},
		{"\u00a0", "&nbsp;", "&nbsp;"},
		{`"`, `"`, "&quot;"},
		{"'`=/", "'`=/", "'`=/"},
		{"&&", "&amp;&amp;", "&amp;&amp;"},
		{"<<>>", "&lt;&lt;&gt;&gt;", "&lt;&lt;&gt;&gt;"},
		{`""`, `""`, "&quot;&quot;"},
		{"\u00a0\u00a0", "&nbsp;&nbsp;", "&nbsp;&nbsp;"},
		{"<a b=\"c\">&\u00a0</a>", "&lt;a b=\"c\"&gt;&amp;&nbsp;&lt;/a&gt;", "&lt;a b=&quot;c&quot;&gt;&amp;&nbsp;&lt;/a&gt;"},
		// What is a reference already is a text like any other.
		{"&amp;", "&amp;amp;", "&amp;amp;"},
		{"&lt;&quot;&nbsp;", "&amp;lt;&amp;quot;&amp;nbsp;", "&amp;lt;&amp;quot;&amp;nbsp;"},
		{"&#38;", "&amp;#38;", "&amp;#38;"},
		{" \t\n\r\f\x00", " \t\n\r\f\x00", " \t\n\r\f\x00"},
		{"é\u2028\u00a1\u202f\u3000\U0001f600", "é\u2028\u00a1\u202f\u3000\U0001f600", "é\u2028\u00a1\u202f\u3000\U0001f600"},
	} {
		if got := ser.Text(c.s); got != c.text {
			t.Errorf("Text(%q) = %q, want %q", c.s, got, c.text)
		}
		if got := ser.Value(c.s); got != c.value {
			t.Errorf("Value(%q) = %q, want %q", c.s, got, c.value)
		}
	}
}

func TestTextGoesByBytes(t *testing.T) {
	for s, want := range map[string]string{
		"\xc2":                 "\xc2",
		"\xa0":                 "\xa0",
		"\xa0\xc2":             "\xa0\xc2",
		"\xc2\xc2\xa0\xa0":     "\xc2&nbsp;\xa0",
		"\xe1\xc2\xa0":         "\xe1&nbsp;",
		"\xc2\xa1\xc3\xa0\xc2": "\xc2\xa1\xc3\xa0\xc2",
		"\xff<\xfe":            "\xff&lt;\xfe",
		"\xc2&\xa0":            "\xc2&amp;\xa0",
		"\xef\xbc\x9c":         "\xef\xbc\x9c", // a < of full width
	} {
		if got := ser.Text(s); got != want {
			t.Errorf("Text(%q) = %q, want %q", s, got, want)
		}
		if got := ser.Value(s); got != want {
			t.Errorf("Value(%q) = %q, want %q", s, got, want)
		}
	}
}

// written is Text, or Value, byte for byte.
func written(s string, value bool) string {
	out := ""
	for len(s) > 0 {
		n, to := 1, s[:1]
		switch {
		case s[0] == '&':
			to = "&amp;"
		case s[0] == '<':
			to = "&lt;"
		case s[0] == '>':
			to = "&gt;"
		case s[0] == '"' && value:
			to = "&quot;"
		case len(s) > 1 && s[0] == 0xc2 && s[1] == 0xa0:
			n, to = 2, "&nbsp;"
		}
		out, s = out+to, s[n:]
	}
	return out
}

func TestTextAndValueOfRandomBytes(t *testing.T) {
	r := rand.New(rand.NewSource(10))
	signs := []byte("&<>\"'a;\xc2\xa0\xc3\xff\x00")
	for range 20000 {
		b := make([]byte, r.Intn(12))
		for i := range b {
			b[i] = signs[r.Intn(len(signs))]
		}
		s := string(b)
		if got, want := ser.Text(s), written(s, false); got != want {
			t.Fatalf("Text(%q) = %q, want %q", s, got, want)
		}
		if got, want := ser.Value(s), written(s, true); got != want {
			t.Fatalf("Value(%q) = %q, want %q", s, got, want)
		}
	}
}
