package text

import (
	"bytes"
	"slices"
	"testing"
	"unicode/utf8"
)

type sign struct {
	at int
	r  rune
}

func signsOf(b []byte) []sign {
	var out []sign
	for at, r := range Signs(b) {
		out = append(out, sign{at, r})
	}
	return out
}

// P1.1: Signs

func TestSignsOffsets(t *testing.T) {
	got := signsOf([]byte("a\u00e9\u20ac\U0001f600z"))
	want := []sign{{0, 'a'}, {1, 0xe9}, {3, 0x20ac}, {6, 0x1f600}, {10, 'z'}}
	if !slices.Equal(got, want) {
		t.Errorf("got %v, want %v", got, want)
	}
	if got := signsOf(nil); len(got) != 0 {
		t.Errorf("of nothing: %v", got)
	}
}

func TestSignsKeepsMarkAndReturns(t *testing.T) {
	got := signsOf([]byte("\ufeff\r\n\r"))
	want := []sign{{0, 0xfeff}, {3, '\r'}, {4, '\n'}, {5, '\r'}}
	if !slices.Equal(got, want) {
		t.Errorf("got %v, want %v", got, want)
	}
}

func TestSignsMalformed(t *testing.T) {
	const bad = Replaced
	for _, c := range []struct {
		in   string
		want []sign
	}{
		{"\xe2\x82A", []sign{{0, bad}, {2, 'A'}}},
		{"\xe2\x82", []sign{{0, bad}}},
		{"\xe2", []sign{{0, bad}}},
		{"\xf0\x9f\x98", []sign{{0, bad}}},
		{"\xf0\x9f\x98\xe2\x82\xac", []sign{{0, bad}, {3, 0x20ac}}},
		{"\x80\xbf", []sign{{0, bad}, {1, bad}}},
		{"\xc0\x80", []sign{{0, bad}, {1, bad}}},
		{"\xc1\xbf", []sign{{0, bad}, {1, bad}}},
		{"\xc2A", []sign{{0, bad}, {1, 'A'}}},
		{"\xe0\x9f\xbf", []sign{{0, bad}, {1, bad}, {2, bad}}},
		{"\xed\xa0\x80", []sign{{0, bad}, {1, bad}, {2, bad}}},
		{"\xf0\x8f\xbf\xbf", []sign{{0, bad}, {1, bad}, {2, bad}, {3, bad}}},
		{"\xf4\x90\x80\x80", []sign{{0, bad}, {1, bad}, {2, bad}, {3, bad}}},
		{"\xf5\x80", []sign{{0, bad}, {1, bad}}},
		{"\xff\xfe", []sign{{0, bad}, {1, bad}}},
		{"\xe2\xe2\x82\xac", []sign{{0, bad}, {1, 0x20ac}}},
		{"a\xf1\x80\x80\xe1\x80\xc2b\x80c\x80\xbfd", []sign{{0, 'a'}, {1, bad}, {4, bad}, {6, bad}, {7, 'b'}, {8, bad}, {9, 'c'}, {10, bad}, {11, bad}, {12, 'd'}}},
	} {
		if got := signsOf([]byte(c.in)); !slices.Equal(got, c.want) {
			t.Errorf("%x: got %v, want %v", c.in, got, c.want)
		}
	}
}

// begins is every beginning of every well-formed character, each with the
// character that it is, or Replaced if bytes are lacking.
func begins() map[string]rune {
	out := map[string]rune{}
	for r := rune(0); r <= utf8.MaxRune; r++ {
		if !utf8.ValidRune(r) {
			continue
		}
		whole := string(r)
		for n := 1; n < len(whole); n++ {
			out[whole[:n]] = Replaced
		}
		out[whole] = r
	}
	return out
}

func plainSigns(b []byte, begins map[string]rune) []sign {
	var out []sign
	for at := 0; at < len(b); {
		size, r := 1, Replaced
		for n := 1; n <= 4 && at+n <= len(b); n++ {
			if s, ok := begins[string(b[at:at+n])]; ok {
				size, r = n, s
				if s != Replaced {
					break
				}
			}
		}
		out = append(out, sign{at, r})
		at += size
	}
	return out
}

func TestSignsAgainstAllBeginnings(t *testing.T) {
	table := begins()
	check := func(b []byte) {
		if got, want := signsOf(b), plainSigns(b, table); !slices.Equal(got, want) {
			t.Fatalf("%x: got %v, want %v", b, got, want)
		}
	}
	for first := range 256 {
		for second := range 256 {
			check([]byte{byte(first), byte(second)})
		}
	}
	edges := []byte{0x00, 0x7f, 0x80, 0x8f, 0x90, 0x9f, 0xa0, 0xbf, 0xc0, 0xc1, 0xc2, 0xdf, 0xe0, 0xe1, 0xec, 0xed, 0xee, 0xef, 0xf0, 0xf1, 0xf3, 0xf4, 0xf5, 0xff}
	for _, a := range edges {
		for _, b := range edges {
			for _, c := range edges {
				for _, d := range edges {
					check([]byte{a, b, c, d})
				}
			}
		}
	}
}

func TestSignsLeftEarlyAndUsedAgain(t *testing.T) {
	all := Signs([]byte("abc"))
	for range 2 {
		n := 0
		for at, r := range all {
			if at != n || r != rune('a'+n) {
				t.Errorf("at %d: %q", at, r)
			}
			n++
			if n == 2 {
				break
			}
		}
		if n != 2 {
			t.Errorf("%d signs ahead of the break", n)
		}
	}
	n := 0
	for range all {
		n++
	}
	if n != 3 {
		t.Errorf("%d signs", n)
	}
}

func TestSignsKeepsNoArgument(t *testing.T) {
	b := []byte("abc")
	all := Signs(b)
	b[1] = 'x'
	for at, r := range all {
		if r != rune('a'+at) {
			t.Errorf("at %d: %q", at, r)
		}
	}
}

// P1.1: Decode

func TestDecode(t *testing.T) {
	for _, c := range []struct{ in, want string }{
		{"", ""},
		{"abc", "abc"},
		{"a\r\nb\rc\n", "a\nb\nc\n"},
		{"\r\r\n\n\r", "\n\n\n\n"},
		{"\n\r", "\n\n"},
		{"\r\ufeff\n", "\n\ufeff\n"},
		{"\xef\xbb\xbfx", "x"},
		{"\xef\xbb\xbf", ""},
		{"\xef\xbb\xbf\xef\xbb\xbfx", "\ufeffx"},
		{"x\xef\xbb\xbf", "x\ufeff"},
		{"\xef\xbb\xbf\r\n", "\n"},
		{"\xef\xbbx", "\ufffdx"},
		{"\xfe\xff", "\ufffd\ufffd"},
		{"\xe2\x82A", "\ufffdA"},
		{"a\x00b", "a\x00b"},
	} {
		if got := string(Decode([]byte(c.in))); got != c.want {
			t.Errorf("%q: got %q, want %q", c.in, got, c.want)
		}
	}
}

func TestDecodeLeavesArgument(t *testing.T) {
	b := []byte("\xef\xbb\xbfa\r\nb")
	before := bytes.Clone(b)
	Decode(b)
	if !bytes.Equal(b, before) {
		t.Errorf("changed to %q", b)
	}
}

// P1.2: Put, Encode

func TestPutEveryRune(t *testing.T) {
	for r := rune(-2); r <= 0x110002; r++ {
		want := "\xef\xbf\xbd"
		if utf8.ValidRune(r) {
			want = string(r)
		}
		if got := string(Put([]byte("ab"), r)); got != "ab"+want {
			t.Fatalf("%x: got %x", r, got)
		}
		if got := string(Encode([]rune{r})); got != want {
			t.Fatalf("Encode %x: got %x", r, got)
		}
	}
	for _, r := range []rune{-1 << 31, 1<<31 - 1} {
		if got := string(Put(nil, r)); got != "\xef\xbf\xbd" {
			t.Errorf("%x: got %x", r, got)
		}
	}
}

func TestPutSharesNoMemory(t *testing.T) {
	room := []byte("abcdef")
	one := Put(room[:2], 'x')
	two := Put(room[:2], 'y')
	if string(room) != "abcdef" || string(one) != "abx" || string(two) != "aby" {
		t.Errorf("%q %q %q", room, one, two)
	}
	one[0] = 'z'
	if room[0] != 'a' {
		t.Error("the answer shares memory with the argument")
	}
}

func TestEncode(t *testing.T) {
	rs := []rune{'a', 0xe9, 0x20ac, 0xd800, 0x1f600, -1, 0x110000, 0xdfff, 0}
	want := "a\u00e9\u20ac\ufffd\U0001f600\ufffd\ufffd\ufffd\x00"
	if got := string(Encode(rs)); got != want {
		t.Errorf("got %q, want %q", got, want)
	}
	if got := Encode(nil); len(got) != 0 {
		t.Errorf("of nothing: %q", got)
	}
}

func TestEncodeUndoesDecode(t *testing.T) {
	for r := rune(0); r <= utf8.MaxRune; r++ {
		if !utf8.ValidRune(r) || r == '\r' {
			continue
		}
		if got := Decode(Encode([]rune{'a', r})); len(got) != 2 || got[1] != r {
			t.Fatalf("%x: got %x", r, got)
		}
	}
}

// P1.3

func TestClasses(t *testing.T) {
	const blank = "\t\n\f\r "
	const letters = "ABCDEFGHIJKLMNOPQRSTUVWXYZabcdefghijklmnopqrstuvwxyz"
	const hexes = "0123456789abcdefABCDEF"
	has := func(s string, r rune) bool { return r >= 0 && r < 0x80 && bytes.IndexByte([]byte(s), byte(r)) >= 0 }
	for r := rune(-300); r < 0x3000; r++ {
		if Blank(r) != has(blank, r) {
			t.Errorf("Blank %x", r)
		}
		if Letter(r) != has(letters, r) {
			t.Errorf("Letter %x", r)
		}
		if Digit(r) != has(hexes[:10], r) {
			t.Errorf("Digit %x", r)
		}
		value := -1
		if has(hexes, r) {
			value = bytes.IndexByte([]byte(hexes), byte(r))
			if value > 15 {
				value -= 6
			}
		}
		if Hex(r) != value {
			t.Errorf("Hex %x: %d", r, Hex(r))
		}
		small := r
		if has(letters[:26], r) {
			small = r + 32
		}
		if Small(r) != small {
			t.Errorf("Small %x: %x", r, Small(r))
		}
	}
}

// Signs whose lowest bytes, or whose simple foldings, are letters or digits of ASCII.
func TestClassesFarAway(t *testing.T) {
	for _, r := range []rune{0x141, 0x10041, 0xff21, 0x212a, 0x130, 0x660, 0xff10, 0x2028, 0x3000, 0x10fffd, -1 << 31, 1<<31 - 1} {
		if Blank(r) || Letter(r) || Digit(r) || Hex(r) != -1 || Small(r) != r {
			t.Errorf("%x", r)
		}
	}
}

func TestLower(t *testing.T) {
	for in, want := range map[string]string{
		"":                     "",
		"AZaz09@[`{":           "azaz09@[`{",
		"A\u00c9b\u212aI":      "a\u00c9b\u212ai",
		"\xc1\xffB\xe2\x82":    "\xc1\xffb\xe2\x82",
		"DOCTYPE \x00 Viewbox": "doctype \x00 viewbox",
	} {
		if got := Lower(in); got != want {
			t.Errorf("%q: got %q, want %q", in, got, want)
		}
	}
}

func TestTrim(t *testing.T) {
	for in, want := range map[string]string{
		"":                 "",
		" \t\n\f\r ":       "",
		" \n a b\t":        "a b",
		"a":                "a",
		"\va\v":            "\va\v",
		"\u00a0a\u2003":    "\u00a0a\u2003",
		" \xff \x85 ":      "\xff \x85",
		"\r\n\f\t x\ty \r": "x\ty",
	} {
		if got := Trim(in); got != want {
			t.Errorf("%q: got %q, want %q", in, got, want)
		}
	}
}

func TestWords(t *testing.T) {
	for _, c := range []struct {
		in   string
		want []string
	}{
		{"", nil},
		{" \t\n\f\r ", nil},
		{"a", []string{"a"}},
		{" a  bc\nd ", []string{"a", "bc", "d"}},
		{"a\tb\nc\fd\re f", []string{"a", "b", "c", "d", "e", "f"}},
		{"a\vb\u00a0c", []string{"a\vb\u00a0c"}},
		{"\xff \xe2\x82 \u20ac", []string{"\xff", "\xe2\x82", "\u20ac"}},
		{"b a b", []string{"b", "a", "b"}},
	} {
		if got := Words(c.in); !slices.Equal(got, c.want) {
			t.Errorf("%q: got %q, want %q", c.in, got, c.want)
		}
	}
}
