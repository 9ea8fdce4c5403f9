package path_test

import (
	"maps"
	"math"
	"math/rand"
	"slices"
	"testing"

	"woodcut/path"
)

// holds tells of a table that differs from a map in anything that it answers.
func holds(t *testing.T, tb *path.Table[int, string], want map[int]string) {
	t.Helper()
	keys := slices.Sorted(maps.Keys(want))
	if tb.Len() != len(want) || !slices.Equal(path.Keys(tb), keys) {
		t.Fatalf("Len %d, Keys %v, want %v", tb.Len(), path.Keys(tb), keys)
	}
	var seen []int
	for k, v := range tb.All() {
		seen = append(seen, k)
		if got, ok := tb.Get(k); !ok || got != v || v != want[k] {
			t.Fatalf("All has %q under %d, Get %q, %v, want %q", v, k, got, ok, want[k])
		}
	}
	if !slices.Equal(seen, keys) {
		t.Fatalf("All goes through %v, want %v", seen, keys)
	}
}

// P6.2

func TestZeroTableIsEmpty(t *testing.T) {
	var tb path.Table[int, string]
	holds(t, &tb, nil)
	if v, ok := tb.Get(0); ok || v != "" || tb.Drop(0) {
		t.Error("the zero Table has something")
	}
	if c := tb.Clone(); c == nil || c == &tb || !c.Put(0, "x") || tb.Len() != 0 {
		t.Error("Clone of the zero Table")
	}
	if !tb.Put(0, "") || tb.Put(0, "y") {
		t.Error("Put into the zero Table")
	}
	holds(t, &tb, map[int]string{0: "y"})
}

func TestPutGetDrop(t *testing.T) {
	tb := &path.Table[int, string]{}
	for _, k := range []int{5, -3, 9, 0, math.MinInt, math.MaxInt} {
		if !tb.Put(k, "first") {
			t.Errorf("Put(%d) isn't new", k)
		}
	}
	if tb.Put(9, "second") || tb.Put(math.MinInt, "") {
		t.Error("Put of a key that is there is new")
	}
	holds(t, tb, map[int]string{5: "first", -3: "first", 9: "second", 0: "first", math.MinInt: "", math.MaxInt: "first"})
	if v, ok := tb.Get(math.MinInt); !ok || v != "" {
		t.Error("Get of a zero value")
	}
	for _, k := range []int{1, -4, 10, math.MaxInt - 1} {
		if v, ok := tb.Get(k); ok || v != "" || tb.Drop(k) {
			t.Errorf("%d is there", k)
		}
	}
	for _, k := range []int{0, math.MaxInt, math.MinInt} {
		if !tb.Drop(k) || tb.Drop(k) {
			t.Errorf("Drop(%d)", k)
		}
	}
	holds(t, tb, map[int]string{-3: "first", 5: "first", 9: "second"})
	if !tb.Put(0, "again") {
		t.Error("Put of a key that was dropped isn't new")
	}
	holds(t, tb, map[int]string{-3: "first", 0: "again", 5: "first", 9: "second"})
}

func TestTableAgainstMap(t *testing.T) {
	r := rand.New(rand.NewSource(3))
	for range 60 {
		tb, want := &path.Table[int, string]{}, map[int]string{}
		for range 300 {
			k, v := r.Intn(40)-20, string(rune('a'+r.Intn(26)))
			_, had := want[k]
			if r.Intn(3) == 0 {
				if tb.Drop(k) != had {
					t.Fatalf("Drop(%d) is %v", k, !had)
				}
				delete(want, k)
			} else {
				if tb.Put(k, v) == had {
					t.Fatalf("Put(%d) is %v", k, had)
				}
				want[k] = v
			}
			if got, ok := tb.Get(k); got != want[k] || tb.Len() != len(want) {
				t.Fatalf("Get(%d) = %q, %v, want %q", k, got, ok, want[k])
			}
		}
		holds(t, tb, want)
	}
}

func TestKeysInByteOrder(t *testing.T) {
	want := []string{"", "\x00", "A", "Z", "a", "a-b", "a/b", "aa", "b", "ä", "\uffff", "😀", "\xff"}
	tb := &path.Table[string, int]{}
	for i := range want {
		k := want[(i*5+3)%len(want)]
		if !tb.Put(k, len(k)) {
			t.Errorf("Put(%q) isn't new", k)
		}
	}
	if got := path.Keys(tb); !slices.Equal(got, want) {
		t.Errorf("Keys %q, want %q", got, want)
	}
	var got []string
	for k, v := range tb.All() {
		got = append(got, k)
		if v != len(k) {
			t.Errorf("%d under %q", v, k)
		}
	}
	if !slices.Equal(got, want) {
		t.Errorf("All %q, want %q", got, want)
	}
}

type grade uint8

func TestTableOfOtherTypes(t *testing.T) {
	tb := &path.Table[grade, []int]{}
	for _, k := range []grade{255, 0, 128} {
		tb.Put(k, []int{int(k)})
	}
	if got := path.Keys(tb); !slices.Equal(got, []grade{0, 128, 255}) {
		t.Errorf("Keys %v", got)
	}
	if v, ok := tb.Get(128); !ok || !slices.Equal(v, []int{128}) {
		t.Errorf("Get %v, %v", v, ok)
	}
	if v, ok := tb.Get(1); ok || v != nil {
		t.Errorf("Get %v, %v", v, ok)
	}
}

func TestAllMayBeLeftAndUsedAgain(t *testing.T) {
	tb := &path.Table[int, string]{}
	for i := range 4 {
		tb.Put(i, "v")
	}
	all := tb.All()
	for most := range 6 {
		n := 0
		for k := range all {
			if k != n {
				t.Errorf("key %d, want %d", k, n)
			}
			n++
			if n > most {
				break
			}
		}
		if n != min(most+1, 4) {
			t.Errorf("left behind %d: %d keys", most, n)
		}
	}
}

// The document forbids changes in the loop, yet no call may panic or go on for ever.
func TestAllEndsThoughChanged(t *testing.T) {
	tb := &path.Table[int, string]{}
	for i := range 8 {
		tb.Put(i, "v")
	}
	for k := range tb.All() {
		tb.Drop(k)
		tb.Drop(k + 1)
	}
	tb.Put(0, "v")
	next := 1
	for range tb.All() {
		tb.Put(next, "v")
		next++
		if next > 1000 {
			t.Fatal("the loop doesn't end")
		}
	}
}

func TestCloneIsApart(t *testing.T) {
	tb := &path.Table[int, string]{}
	want := map[int]string{}
	for i := range 5 {
		tb.Put(i*2, "v")
		want[i*2] = "v"
	}
	c := tb.Clone()
	holds(t, c, want)
	tb.Drop(4)
	tb.Put(0, "w")
	tb.Put(3, "x")
	holds(t, c, want)
	holds(t, tb, map[int]string{0: "w", 2: "v", 3: "x", 6: "v", 8: "v"})
	d := tb.Clone()
	d.Put(9, "y")
	d.Put(-1, "y")
	d.Drop(6)
	d.Put(2, "z")
	holds(t, c, want)
	holds(t, tb, map[int]string{0: "w", 2: "v", 3: "x", 6: "v", 8: "v"})
	holds(t, d, map[int]string{-1: "y", 0: "w", 2: "z", 3: "x", 8: "v", 9: "y"})
}

func TestKeysAreNew(t *testing.T) {
	tb := &path.Table[int, string]{}
	for i := range 5 {
		tb.Put(i, "v")
	}
	keys := path.Keys(tb)
	for i := range keys {
		keys[i] = 77
	}
	_ = append(keys, 78)
	if got := path.Keys(tb); !slices.Equal(got, []int{0, 1, 2, 3, 4}) {
		t.Errorf("Keys shares the table's memory: %v", got)
	}
	keys = path.Keys(tb)
	tb.Drop(0)
	if !slices.Equal(keys, []int{0, 1, 2, 3, 4}) {
		t.Errorf("Keys shares the table's memory: %v", keys)
	}
}

func TestNilTable(t *testing.T) {
	var tb *path.Table[int, string]
	if tb.Put(1, "x") || tb.Drop(1) || tb.Len() != 0 || tb.Clone() != nil || len(path.Keys(tb)) != 0 {
		t.Error("a nil Table has something")
	}
	if v, ok := tb.Get(1); ok || v != "" {
		t.Error("Get of a nil Table")
	}
	for k := range tb.All() {
		t.Error("All of a nil Table", k)
	}
}

func TestManyKeys(t *testing.T) {
	const many = 20000
	tb := &path.Table[int, int]{}
	for i := range many {
		tb.Put(i*7919%many, i)
	}
	if tb.Len() != many {
		t.Fatal("Len", tb.Len())
	}
	for i := range many {
		if v, ok := tb.Get(i * 7919 % many); !ok || v != i {
			t.Fatalf("Get = %d, %v, want %d", v, ok, i)
		}
	}
	for i := range many {
		if !tb.Drop(many - 1 - i) {
			t.Fatal("Drop", i)
		}
	}
	if tb.Len() != 0 {
		t.Error("Len", tb.Len())
	}
}
