package settle_test

import (
	"bytes"
	"math"
	"strings"
	"testing"

	"woodcut/api"
	"woodcut/settle"
)

// P13.3

const fixed = "<!DOCTYPE html><html><head></head><body><p>a</p></body></html>"

// newlines is a page that loses a newline each time that it's read.
func newlines(n int) string {
	return strings.Replace(fixed, "<p>a</p>", "<pre>"+strings.Repeat("\n", n)+"a</pre>", 1)
}

// growing is a page of some bytes that is longer by its own end tags each time that it's written.
func growing(n int) string { return "<plaintext>" + strings.Repeat("a", n-len("<plaintext>")) }

func TestUntil(t *testing.T) {
	for _, c := range []struct {
		in      string
		times   int
		want    string
		changed int
		ok      bool
	}{
		{fixed, 1, fixed, 0, true},
		{fixed, 5, fixed, 0, true},
		{fixed, 0, "", 0, false},
		{fixed, -1, "", 0, false},
		{fixed, math.MinInt, "", 0, false},
		{fixed, math.MaxInt, fixed, 0, true},
		{"<p>a", 2, fixed[len("<!DOCTYPE html>"):], 1, true},
		{"<p>a", 1, "", 1, false},
		{"<p>a", 0, "", 0, false},
		{"", 2, "<html><head></head><body></body></html>", 1, true},
		{"", 1, "", 1, false},
		{today + "<p>a", 2, fixed, 1, true},
		{"\ufeff" + fixed, 2, fixed, 1, true},
		{fixed + "\n", 2, strings.Replace(fixed, "</p>", "</p>\n", 1), 1, true},
		{strings.ToLower(fixed), 9, fixed, 1, true},
		{newlines(1), 1, "", 1, false},
		{newlines(1), 2, newlines(0), 1, true},
		{newlines(3), 3, "", 3, false},
		{newlines(3), 4, newlines(0), 3, true},
		{newlines(3), 99, newlines(0), 3, true},
		{newlines(9), -9, "", 0, false},
		{newlines(49), 49, "", 49, false},
		{newlines(49), 50, newlines(0), 49, true},
		{newlines(49), 51, newlines(0), 49, true},
		{newlines(50), 50, "", 50, false},
		{newlines(50), 51, "", 50, false},
		{newlines(50), math.MaxInt, "", 50, false},
		{growing(99), 99, "", 50, false},
		// Not stable, but the same again.
		{"<html><head></head><body><form></form><!--a-b--></body></html>", 1, "<html><head></head><body><form></form><!--a-b--></body></html>", 0, true},
		// The links come apart only once they are written within each other.
		{"<a>1<table><tr><td></td><a>2</a></tr></table></a>", 9, "<html><head></head><body><a>1</a><a>2</a><table><tbody><tr><td></td></tr></tbody></table></body></html>", 2, true},
	} {
		out, changed, ok := settle.Until([]byte(c.in), c.times)
		if string(out) != c.want || changed != c.changed || ok != c.ok {
			t.Errorf("Until(%.100q, %d) is %.200q, %d, %v", c.in, c.times, out, changed, ok)
		}
	}
}

func TestUntilAnError(t *testing.T) {
	for _, c := range []struct {
		what, in string
		changed  int
	}{
		{"too long", strings.Repeat("a", api.MaxBytes+1), 0},
		{"too long once it is written", strings.Repeat("&", api.MaxBytes/4), 1},
		{"too long for the second round", growing(api.MaxBytes - 9), 1},
		{"too long for the third round", growing(api.MaxBytes - 60), 2},
		{"too long for the fourth round", growing(api.MaxBytes - 80), 3},
		{"too deep", strings.Repeat("<div>", api.MaxDepth), 0},
		{"too many nodes", strings.Repeat("<p>", api.MaxNodes), 0},
	} {
		out, changed, ok := settle.Until([]byte(c.in), 9)
		if out != nil || changed != c.changed || ok {
			t.Errorf("%s: %.100q, %d, %v", c.what, out, changed, ok)
		}
	}
}

// What it answers is a fixed point, reached by as many rounds as it tells; the bytes that came in are as they were.
func TestUntilOfRandomPages(t *testing.T) {
	r := newRandom(134)
	for range 5000 {
		in := []byte(randomPage(r))
		was := bytes.Clone(in)
		out, changed, ok := settle.Until(in, 50)
		if !bytes.Equal(in, was) {
			t.Fatalf("%q was changed", was)
		}
		if !ok {
			t.Fatalf("%q turned %d times", in, changed)
		}
		b := in
		for range changed {
			next := round(t, b)
			if bytes.Equal(next, b) {
				t.Fatalf("%q turned fewer than %d times", in, changed)
			}
			b = next
		}
		if !bytes.Equal(b, out) || !bytes.Equal(round(t, out), out) {
			t.Fatalf("%q: Until is %q", in, out)
		}
		if short, n, ok := settle.Until(in, changed); short != nil || n != changed || ok {
			t.Fatalf("%q: one round fewer is %q, %d, %v", in, short, n, ok)
		}
	}
}

// The result is the caller's own.
func TestUntilSharesNothing(t *testing.T) {
	in := []byte(fixed)
	out, _, _ := settle.Until(in, 1)
	clear(out)
	if string(in) != fixed {
		t.Error("the input was written over")
	}
}
