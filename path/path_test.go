package path_test

import (
	"strings"
	"testing"

	"woodcut/path"
)

const letters = "ABCDEFGHIJKLMNOPQRSTUVWXYZabcdefghijklmnopqrstuvwxyz0123456789.-_"

// parts is a path of so many parts.
func parts(n int) string { return strings.Repeat("a/", n-1) + "a" }

// P6.1: Right

func TestRight(t *testing.T) {
	for _, s := range []string{
		"a", "Z", "0", "-", "_", "...", "....", ".a", "a.", "..a", "a..", ".html", "a.html", "_x", "a/b", "a/...", "A-b_C.9/x",
		letters, parts(16), strings.Repeat("x", 200), "a/" + strings.Repeat("x", 198),
	} {
		if !path.Right(s) {
			t.Errorf("Right(%q) is false", s)
		}
	}
	for _, s := range []string{
		"", "/", "//", "/a", "a/", "a//b", "a/b/", ".", "..", "./a", "../a", "a/.", "a/..", "a/./b", "a/../b.html",
		"a b", "a\\b", "a%20b", "a?b", "a#b", "a:b", "a~", "a\n", "a\x00", "é", "a/é", "\xff", "a\xc3", "\uff21", "\u017f", "\u212a",
		parts(17), strings.Repeat("x", 201), "a/" + strings.Repeat("x", 199), strings.Repeat("é", 100), strings.Repeat("/", 200),
	} {
		if path.Right(s) {
			t.Errorf("Right(%q) is true", s)
		}
	}
}

func TestRightByByte(t *testing.T) {
	for c := range 256 {
		b := byte(c)
		want := strings.IndexByte(letters+"/", b) >= 0
		if s := string([]byte{'a', b, 'a'}); path.Right(s) != want {
			t.Errorf("Right(%q) is %v", s, !want)
		}
	}
}

func TestMostParts(t *testing.T) {
	if path.MostParts != 16 {
		t.Error("MostParts", path.MostParts)
	}
}

// P6.1: Hidden, Page

func TestHidden(t *testing.T) {
	for s, want := range map[string]bool{
		"_": true, "_a": true, "a/_b.html": true, "_x/y.html": true, "a/_b/c": true, "a/__": true,
		"": false, "a": false, "a_": false, "a_b/c_d": false, "a/b_": false, ".": false, "a/._b": false, "-_": false,
		// what isn't a path
		"/_": true, "//_a": true, "_/": true, "../_a": true, "é/_é": true, "a b/_": true, "\xff/_": true, "/": false, "a//b_": false, " _a": false, "a\\_b": false,
		"_" + strings.Repeat("x", 300):            true,
		strings.Repeat("a/", 300) + "_b":          true,
		strings.Repeat("a/", 300) + "b":           false,
		strings.Repeat("a_/", 300) + "b_/\xff_/é": false,
	} {
		if path.Hidden(s) != want {
			t.Errorf("Hidden(%q) is %v", s, !want)
		}
	}
}

func TestPage(t *testing.T) {
	for s, want := range map[string]bool{
		"a.html": true, "a/b.html": true, ".html": true, "a/.html": true, "a_.html": true, "a.html.html": true, "..html": true,
		"a/_b.html": false, "_x/y.html": false, "_.html": false, "a/_b/c.html": false,
		"a": false, "a.htm": false, "a.html/b": false, "a.HTML": false, "a.Html": false, "ahtml": false, "html": false, "a.html.": false,
		"": false, "/a.html": false, "a//b.html": false, "a/../b.html": false, "a b.html": false, "é.html": false, "a.html/": false, "a.html\n": false,
		parts(16) + ".html": true, parts(17) + ".html": false,
		strings.Repeat("x", 195) + ".html": true, strings.Repeat("x", 196) + ".html": false,
	} {
		if path.Page(s) != want {
			t.Errorf("Page(%q) is %v", s, !want)
		}
	}
}

// P6.1: Dir

func TestDir(t *testing.T) {
	for s, want := range map[string]string{
		"a/b/c": "a/b/", "a/b": "a/", "c": "", "": "", "a.html": "",
		"a/": "a/", "/": "/", "/a": "/", "//": "//", "a//b": "a//", "../x": "../", "é/ü": "é/", "\xff/\xff": "\xff/", "a\\b": "",
		parts(300): strings.Repeat("a/", 299),
	} {
		if got := path.Dir(s); got != want {
			t.Errorf("Dir(%q) = %q, want %q", s, got, want)
		}
	}
}
