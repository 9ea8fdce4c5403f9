package tree

import (
	"slices"
	"strings"
	"testing"

	"woodcut/dom"
	"woodcut/token"
)

// P12.5: the special elements of HTML, most of which no page can have open where it matters.
func TestSpecialNames(t *testing.T) {
	all := "address applet area article aside base basefont bgsound blockquote body br button caption center col colgroup dd details dir div dl dt " +
		"embed fieldset figcaption figure footer form frame frameset h1 h2 h3 h4 h5 h6 head header hgroup hr html iframe img input keygen li link " +
		"listing main marquee menu meta nav noembed noframes noscript object ol p param plaintext pre script search section select source style " +
		"summary table tbody td template textarea tfoot th thead title tr track ul wbr xmp"
	b := newBuilder(nil)
	for _, name := range strings.Fields(all) {
		if !b.isSpecial(b.insertNamed(name)) || b.isSpecial(b.element(dom.Math, token.Token{Name: name})) {
			t.Error(name)
		}
		b.stack.All = nil
	}
	for _, name := range strings.Fields("a b dialog foo h7 image label mi option optgroup ruby rt span svg math canvas desc foreignObject") {
		if b.isSpecial(b.insertNamed(name)) {
			t.Error(name)
		}
		b.stack.All = nil
	}
}

// P12.3: no page lets the last open table stand nowhere, but the place is told for that, too.
func TestTableThatStandsNowhere(t *testing.T) {
	for around, want := range map[string]place{"div": {3, dom.None}, "template": {4, dom.None}} {
		b := newBuilder(nil)
		b.foster = true
		b.insertNamed("html")
		b.insertNamed("body")
		b.insertNamed(around)
		table := b.insertNamed("table")
		b.insertNamed("tr")
		if got := b.placeWithin(b.stack.Top()); got != (place{want.up, table}) {
			t.Errorf("within %s: %v", around, got)
		}
		b.d.Out(table)
		if got := b.placeWithin(b.stack.Top()); got != want {
			t.Errorf("within %s, out of it: %v, want %v", around, got, want)
		}
	}
}

// P12.3: what is foster parented is so while that is enabled alone, and behind certain elements alone.
func TestFosterIsSwitchedOff(t *testing.T) {
	b := newBuilder(nil)
	for _, name := range []string{"html", "body", "table", "tbody", "tr"} {
		b.insertNamed(name)
	}
	for _, n := range slices.Backward(b.stack.All) {
		on := b.d.Is(n, "table", "tbody", "tr")
		b.foster = true
		fostered := b.placeWithin(n) != b.endOf(n)
		b.foster = false
		if fostered != on || b.placeWithin(n) != b.endOf(n) {
			t.Errorf("within %s: %v", b.d.Name(n), fostered)
		}
	}
}
