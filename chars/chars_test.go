package chars

import (
	"slices"
	"strconv"
	"strings"
	"testing"
)

// The list of the chapter, in its order; a star: the name needs its semicolon.
const listed = `amp 38, lt 60, gt 62, quot 34, AMP 38, LT 60, GT 62, nbsp 160, iexcl 161, cent 162, pound 163, yen 165, sect 167, copy 169, laquo 171, not 172, shy 173, reg 174, deg 176, plusmn 177, sup2 178, micro 181, para 182, middot 183, raquo 187, frac12 189, iquest 191, Auml 196, Eacute 201, Ouml 214, times 215, Uuml 220, szlig 223, agrave 224, auml 228, ccedil 231, eacute 233, ntilde 241, ouml 246, divide 247, uuml 252, apos* 39, hellip* 8230, mdash* 8212, ndash* 8211, euro* 8364, trade* 8482, larr* 8592, rarr* 8594, notin* 8713, alpha* 945, omega* 969, infin* 8734, bull* 8226, lsquo* 8216, rsquo* 8217, ldquo* 8220, rdquo* 8221, ne* 8800, le* 8804, nvlt* 60`

func listedEntries(t *testing.T) []Entry {
	var out []Entry
	for item := range strings.SplitSeq(listed, ", ") {
		name, number, _ := strings.Cut(item, " ")
		n, err := strconv.Atoi(number)
		if err != nil {
			t.Fatal(err)
		}
		bare := !strings.HasSuffix(name, "*")
		out = append(out, Entry{strings.TrimSuffix(name, "*"), rune(n), bare})
	}
	slices.SortFunc(out, func(a, b Entry) int { return strings.Compare(a.Name, b.Name) })
	return out
}

func signsMeant(e Entry) []rune {
	if e.Name == "nvlt" {
		return []rune{60, 8402}
	}
	return []rune{e.Sign}
}

// P2.1

func TestNames(t *testing.T) {
	if got, want := Names(), listedEntries(t); !slices.Equal(got, want) {
		t.Errorf("got %v, want %v", got, want)
	}
}

func TestNamesIsNewEachTime(t *testing.T) {
	all := Names()
	clear(all)
	if got, want := Names(), listedEntries(t); !slices.Equal(got, want) {
		t.Errorf("got %v", got)
	}
	if _, n, _ := Match([]rune("amp;")); n != 4 {
		t.Errorf("Match takes %d", n)
	}
}

func TestMatchEveryName(t *testing.T) {
	for _, e := range listedEntries(t) {
		size := len(e.Name)
		for _, behind := range []string{";", ";;", ";x"} {
			rs, n, ended := Match([]rune(e.Name + behind))
			if !slices.Equal(rs, signsMeant(e)) || n != size+1 || !ended {
				t.Errorf("%s%s: %v %d %v", e.Name, behind, rs, n, ended)
			}
		}
		for _, behind := range []string{"", "=", " ;", "Z"} {
			rs, n, ended := Match([]rune(e.Name + behind))
			switch {
			case e.Bare:
				if !slices.Equal(rs, signsMeant(e)) || n != size || ended {
					t.Errorf("%s%s: %v %d %v", e.Name, behind, rs, n, ended)
				}
			case e.Name != "notin":
				if len(rs) != 0 || n != 0 || ended {
					t.Errorf("%s%s: %v %d %v", e.Name, behind, rs, n, ended)
				}
			}
		}
	}
}

func TestMatchEdges(t *testing.T) {
	for _, c := range []struct {
		in    string
		signs []rune
		n     int
		ended bool
	}{
		{"notin;", []rune{8713}, 6, true},
		{"notin", []rune{172}, 3, false},
		{"notin ;", []rune{172}, 3, false},
		{"notit;", []rune{172}, 3, false},
		{"not;in;", []rune{172}, 4, true},
		{"no", nil, 0, false},
		{"nvlt;", []rune{60, 8402}, 5, true},
		{"nvlt", nil, 0, false},
		{"lt;", []rune{60}, 3, true},
		{"le;", []rune{8804}, 3, true},
		{"le", nil, 0, false},
		{"Amp;", nil, 0, false},
		{"AMPx", []rune{38}, 3, false},
		{"ampamp;", []rune{38}, 3, false},
		{"sup2;", []rune{178}, 5, true},
		{"sup;", nil, 0, false},
		{"frac12", []rune{189}, 6, false},
		{"&amp;", nil, 0, false},
		{" amp;", nil, 0, false},
		{";", nil, 0, false},
		{"", nil, 0, false},
	} {
		rs, n, ended := Match([]rune(c.in))
		if !slices.Equal(rs, c.signs) || n != c.n || ended != c.ended {
			t.Errorf("%q: %v %d %v", c.in, rs, n, ended)
		}
	}
}

func TestMatchRunesThatAreNoLetters(t *testing.T) {
	// The lowest bytes of these runes are those of a name.
	for _, rs := range [][]rune{{0x161, 'm', 'p', ';'}, {'a', 'm', 0x10070, ';'}, {-1, 'a'}, {0x110000}} {
		if got, n, ended := Match(rs); len(got) != 0 || n != 0 || ended {
			t.Errorf("%x: %v %d %v", rs, got, n, ended)
		}
	}
	if _, n, ended := Match([]rune{'a', 'm', 'p', 0x13b}); n != 3 || ended {
		t.Errorf("a semicolon that is none: %d %v", n, ended)
	}
}

func TestMatchLeavesArgument(t *testing.T) {
	rs := []rune("notin;x")
	signs, _, _ := Match(rs)
	signs[0] = 'y'
	if string(rs) != "notin;x" {
		t.Errorf("changed to %q", string(rs))
	}
	if again, _, _ := Match(rs); again[0] != 8713 {
		t.Errorf("the next answer is %v", again)
	}
}

// P2.2

func TestNumericEveryNumber(t *testing.T) {
	old := []rune{8364, 129, 8218, 402, 8222, 8230, 8224, 8225, 710, 8240, 352, 8249, 338, 141, 381, 143, 144, 8216, 8217, 8220, 8221, 8226, 8211, 8212, 732, 8482, 353, 8250, 339, 157, 382, 376}
	for n := -2; n <= 0x110002; n++ {
		want := rune(n)
		switch {
		case n <= 0 || n > 0x10ffff || n >= 0xd800 && n <= 0xdfff:
			want = 0xfffd
		case n >= 128 && n <= 159:
			want = old[n-128]
		}
		if got := Numeric(n); got != want {
			t.Fatalf("%x: got %x, want %x", n, got, want)
		}
	}
}

func TestNumericFarAway(t *testing.T) {
	for _, n := range []int{-1 << 63, 1<<63 - 1, 1<<32 + 65, 1 << 31, -1 << 31} {
		if got := Numeric(n); got != 0xfffd {
			t.Errorf("%d: got %x", n, got)
		}
	}
}

func TestNumber(t *testing.T) {
	for _, c := range []struct {
		in       string
		base     int
		value, n int
	}{
		{"", 10, 0, 0},
		{"", 16, 0, 0},
		{"x", 10, 0, 0},
		{"g", 16, 0, 0},
		{"-1", 10, 0, 0},
		{" 1", 10, 0, 0},
		{"0", 10, 0, 1},
		{"65", 10, 65, 2},
		{"65x", 10, 65, 2},
		{"65;66", 10, 65, 2},
		{"9a", 10, 9, 1},
		{"9a", 16, 0x9a, 2},
		{"fFg", 16, 255, 2},
		{"aBcDeF", 16, 0x110000, 6},
		{"00000000000000000000000065", 10, 65, 26},
		{"10FFFF", 16, 0x10ffff, 6},
		{"110000", 16, 0x110000, 6},
		{"110001", 16, 0x110000, 6},
		{"1114111", 10, 0x10ffff, 7},
		{"1114112", 10, 0x110000, 7},
		{"1114113", 10, 0x110000, 7},
		{"99999999999999999999;", 10, 0x110000, 20},
		{"10000000000000000000000000000041", 16, 0x110000, 32},
		{"18446744073709551681", 10, 0x110000, 20},
		{"\u0661", 10, 0, 0},
		{"\uff11", 16, 0, 0},
	} {
		if value, n := Number([]rune(c.in), c.base); value != c.value || n != c.n {
			t.Errorf("%q to the base %d: %d %d", c.in, c.base, value, n)
		}
	}
	if value, n := Number([]rune(strings.Repeat("7", 100000)), 16); value != 0x110000 || n != 100000 {
		t.Errorf("a long one: %d %d", value, n)
	}
}

func TestNumberOtherBases(t *testing.T) {
	for _, base := range []int{-1 << 63, -16, -1, 0, 1, 2, 8, 11, 17, 36, 1<<63 - 1} {
		if value, n := Number([]rune("10f"), base); value != 0 || n != 0 {
			t.Errorf("to the base %d: %d %d", base, value, n)
		}
	}
}
