package meta_test

import (
	"fmt"
	"math"
	"math/rand"
	"slices"
	"strings"
	"testing"

	"woodcut/dom"
	"woodcut/meta"
)

// P16.2

// told is what a table of fills holds, by what is in each.
func told(t *testing.T, in string) string {
	t.Helper()
	d := parsed(t, in)
	var out []string
	for name, n := range meta.Fills(d, dom.Root).All() {
		out = append(out, name+"="+d.Words(n))
	}
	return strings.Join(out, "|")
}

func TestFills(t *testing.T) {
	for in, want := range map[string]string{
		"":                                           "",
		"<p slot=a>1":                                "",
		"<fill>1</fill>":                             "=1",
		"<fill slot>1</fill>":                        "=1",
		"<fill slot=''>1</fill>":                     "=1",
		"<fill name=a>1</fill>":                      "=1",
		"<fill slot=a>1</fill>":                      "a=1",
		"<FILL SLOT=A>1</FILL>":                      "A=1",
		"<fill slot=' a '>1</fill>":                  " a =1",
		"<fill slot=a slot=b>1</fill>":               "a=1",
		"<fill slot=b>1</fill><fill slot=a>2":        "a=2|b=1",
		"<fill slot=a>1</fill><fill slot=a>2":        "a=1",
		"<fill>1</fill><fill slot=''>2":              "=1",
		"<fill slot=a>1<fill slot=b>2</fill></fill>": "a=12",
		"<fill slot=a>1<p><fill slot=b>2</fill></p></fill><fill slot=b>3":                "a=12|b=3",
		"<fill slot=a>1<fill slot=b>2<fill slot=c>3</fill></fill>4</fill><fill slot=c>5": "a=1234|c=5",
		"<div><p><fill slot=a>1</fill></div><fill slot=a>2":                              "a=1",
		"<slot><fill slot=a>1</fill></slot>":                                             "a=1",
		"<template><fill slot=a>1</fill></template><fill slot=a>2":                       "a=1",
		"<fill slot=a><template><fill slot=b>1</fill></template></fill>":                 "a=1",
		"<svg><fill slot=a>1</fill></svg>":                                               "",
		"<math><fill slot=a>1</fill></math><fill slot=a>2":                               "a=2",
		"<svg><fill><desc><fill slot=a>1</fill></desc></fill></svg>":                     "a=1",
		"<!--<fill slot=a>--><title><fill slot=b></title>":                               "",
	} {
		if got := told(t, in); got != want {
			t.Errorf("%q: %s, want %s", in, got, want)
		}
	}
}

func TestSlots(t *testing.T) {
	for in, want := range map[string]string{
		"":                                    "",
		"<p name=a>1":                         "",
		"<slot>1</slot>":                      "1",
		"<SLOT>1</SLOT><slot>2":               "1|2",
		"<slot name=a>1</slot><slot name=a>2": "1|2",
		"<slot>1<slot>2</slot></slot><slot>3": "12|3",
		"<slot>1<p><slot>2</slot>3</slot>":    "123",
		"<slot><slot><slot>1</slot></slot>2</slot><p><slot>3</slot>": "12|3",
		"<fill><slot>1</slot></fill>":                                "1",
		"<head><slot>1</slot>":                                       "1",
		"<template><slot>1</slot></template><slot>2":                 "1|2",
		"<slot><template><slot>1</slot></template></slot>":           "1",
		"<svg><slot>1</slot></svg><slot>2":                           "2",
		"<svg><slot><desc><slot>1</slot></desc></slot></svg>":        "1",
	} {
		d := parsed(t, in)
		var out []string
		for _, n := range meta.Slots(d, dom.Root) {
			out = append(out, d.Words(n))
		}
		if got := strings.Join(out, "|"); got != want {
			t.Errorf("%q: %s, want %s", in, got, want)
		}
	}
}

// nested is a tree in which one element stands in another one of its name, and in templates.
func nested(t *testing.T, name string) *dom.Doc {
	d := dom.New()
	out := put(t, d, dom.Root, element(name, "slot", "a")) // 1
	mid := put(t, d, out, element("p"))                    // 2
	put(t, d, mid, element(name, "slot", "b"))             // 3
	tm := put(t, d, dom.Root, element("template"))         // 4, 5
	in := put(t, d, tm+1, element(name, "slot", "c"))      // 6
	put(t, d, in, element(name, "slot", "d"))              // 7
	put(t, d, tm, element(name, "slot", "e"))              // 8
	put(t, d, dom.Root, element(name, "slot", "b"))        // 9
	put(t, d, dom.Root, of(dom.SVG, name, "slot", "f"))    // 10
	put(t, d, 10, element(name, "slot", "g"))              // 11
	put(t, d, 11, element("b"))                            // 12
	put(t, d, dom.Root, element(name))                     // 13
	put(t, d, 13, word("x"))                               // 14
	d.Add(element(name, "slot", "h"))                      // 15
	put(t, d, 15, element(name, "slot", "a"))              // 16
	put(t, d, 15, element(name, "slot", "a"))              // 17
	return d
}

// The node beneath which the search goes doesn't hide what it holds.
func TestRoots(t *testing.T) {
	f, s := nested(t, "fill"), nested(t, "slot")
	for n, want := range map[int]struct {
		fills string
		slots []int
	}{
		0: {"=13 a=1 b=9 c=6 g=11", []int{1, 6, 9, 11, 13}}, 1: {"b=3", []int{3}}, 2: {"b=3", []int{3}}, 3: {},
		4: {"c=6", []int{6}}, 5: {"c=6", []int{6}}, 6: {"d=7", []int{7}}, 7: {}, 8: {},
		10: {"g=11", []int{11}}, 11: {}, 13: {}, 14: {}, 15: {"a=16", []int{16, 17}},
		dom.None: {}, 18: {}, math.MaxInt: {}, math.MinInt: {},
	} {
		if got := fills(t, f, n); got != want.fills {
			t.Errorf("the fills beneath %d are %s, want %s", n, got, want.fills)
		}
		if got := meta.Slots(s, n); !slices.Equal(got, want.slots) {
			t.Errorf("the slots beneath %d are %v, want %v", n, got, want.slots)
		}
		if got := fills(t, s, n); got != "" {
			t.Errorf("slots as fills beneath %d: %s", n, got)
		}
		if got := meta.Slots(f, n); len(got) > 0 {
			t.Errorf("fills as slots beneath %d: %v", n, got)
		}
	}
}

func TestSlot(t *testing.T) {
	d := dom.New()
	odd := element("slot", "name", "a", "required", "")
	odd.Kind = dom.Comment
	for _, c := range []struct {
		n    dom.Node
		name string
		must bool
	}{
		{element("slot"), "", false},
		{element("slot", "name", "a"), "a", false},
		{element("slot", "name", "", "required", ""), "", true},
		{element("slot", "required", ""), "", true},
		{element("slot", "required", "false", "name", " A "), " A ", true},
		{element("slot", "name", "a", "name", "b"), "a", false},
		{element("slot", "slot", "a", "REQUIRED", "", "Name", "b", "id", "c"), "", false},
		{of(dom.SVG, "slot", "name", "a", "required", ""), "", false},
		{of(dom.Math, "slot", "name", "a", "required", ""), "", false},
		{element("fill", "name", "a", "required", ""), "", false},
		{element("Slot", "name", "a", "required", ""), "", false},
		{odd, "", false},
	} {
		n := put(t, d, dom.Root, c.n)
		if name, must := meta.Slot(d, n); name != c.name || must != c.must {
			t.Errorf("%v: %q, %v", c.n, name, must)
		}
	}
	for _, n := range []int{dom.Root, dom.None, len(d.Nodes), math.MaxInt, math.MinInt} {
		if name, must := meta.Slot(d, n); name != "" || must {
			t.Errorf("node %d: %q, %v", n, name, must)
		}
	}
}

func TestSlotsShareNothing(t *testing.T) {
	d := nested(t, "slot")
	got := meta.Slots(d, dom.Root)
	got[0] = 99
	if again := meta.Slots(d, dom.Root); again[0] != 1 {
		t.Error(again)
	}
	d = nested(t, "fill")
	meta.Fills(d, dom.Root).Put("a", 99)
	if got := fills(t, d, dom.Root); !strings.Contains(got, "a=1 ") {
		t.Error(got)
	}
}

func TestNoTree(t *testing.T) {
	for what, d := range map[string]*dom.Doc{"no tree": nil, "no nodes": {}, "a page alone": dom.New()} {
		if got := fills(t, d, dom.Root); got != "" {
			t.Errorf("%s: %s", what, got)
		}
		if got := meta.Slots(d, dom.Root); len(got) != 0 {
			t.Errorf("%s: %v", what, got)
		}
		if name, must := meta.Slot(d, dom.Root); name != "" || must {
			t.Errorf("%s: %q, %v", what, name, must)
		}
		if name, found, err := meta.Layout(d, "a"); name != "" || found || err != 0 {
			t.Errorf("%s: %q, %v, error %d", what, name, found, err)
		}
	}
}

// All ends on a ring, too.
func TestSearchesOfARing(t *testing.T) {
	d, top, last := ring(t, "fill")
	if got := fills(t, d, dom.Root); got != fmt.Sprint("1=", top) {
		t.Error(got)
	}
	fills(t, d, last)
	d, top, last = ring(t, "slot")
	if got := meta.Slots(d, dom.Root); !slices.Equal(got, []int{top}) {
		t.Error(got)
	}
	meta.Slots(d, last)
	d, _, _ = ring(t, "head")
	meta.Layout(d, "a")
}

// model is the elements of a name beneath a node that stand in no other one: each way down is gone on its own.
func model(d *dom.Doc, n int, name string) []int {
	kids := d.Nodes[n].Kids
	if inner := d.Nodes[n].Inner; inner != dom.None {
		kids = d.Nodes[inner].Kids
	}
	var out []int
	for _, kid := range kids {
		if x := d.Nodes[kid]; x.Kind == dom.Element && x.Space == dom.HTML && x.Name == name {
			out = append(out, kid)
		} else {
			out = append(out, model(d, kid, name)...)
		}
	}
	return out
}

func randomPage(r *rand.Rand) string {
	pick := func(words string) string {
		all := strings.Fields(words)
		return all[r.Intn(len(all))]
	}
	page := ""
	for range r.Intn(40) {
		switch r.Intn(4) {
		case 0:
			page += "</" + pick("slot fill p div svg template b table math") + ">"
		case 1:
			page += pick("x y <!--c-->")
		default:
			page += "<" + pick("slot slot fill fill p div svg template b table td math desc include")
			for range r.Intn(3) {
				page += " " + pick("name slot src required") + "=" + pick("a b '' x?")
			}
			page += ">"
		}
	}
	return page
}

func TestRandomPagesAgainstAModel(t *testing.T) {
	r := rand.New(rand.NewSource(161))
	for range 10000 {
		in := randomPage(r)
		d := parsed(t, in)
		for n := range d.Nodes {
			if got, want := meta.Slots(d, n), model(d, n, "slot"); !slices.Equal(got, want) {
				t.Fatalf("%q: the slots beneath %d are %v, want %v", in, n, got, want)
			}
			want := map[string]int{}
			for _, fill := range slices.Backward(model(d, n, "fill")) {
				name := ""
				for _, a := range d.Nodes[fill].Attrs {
					if a.Name == "slot" {
						name = a.Val
					}
				}
				want[name] = fill
			}
			got := meta.Fills(d, n)
			if got.Len() != len(want) {
				t.Fatalf("%q: the fills beneath %d are %s, want %v", in, n, fills(t, d, n), want)
			}
			for name, fill := range got.All() {
				if want[name] != fill {
					t.Fatalf("%q: the fills beneath %d are %s, want %v", in, n, fills(t, d, n), want)
				}
			}
		}
	}
}
