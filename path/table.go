package path

import (
	"cmp"
	"iter"
	"slices"
)

// Table is things by their names, in order. A name and its thing stand at the same place of the two lists.
type Table[K cmp.Ordered, V any] struct {
	names  []K
	things []V
}

// Put lets a thing stand under a name; whether there was none.
func (t *Table[K, V]) Put(k K, v V) bool {
	if t == nil {
		return false
	}
	at, found := slices.BinarySearch(t.names, k)
	if found {
		t.things[at] = v
		return false
	}
	t.names = slices.Insert(t.names, at, k)
	t.things = slices.Insert(t.things, at, v)
	return true
}

// Get is what stands under a name.
func (t *Table[K, V]) Get(k K) (V, bool) {
	var none V
	if t == nil {
		return none, false
	}
	at, found := slices.BinarySearch(t.names, k)
	if !found {
		return none, false
	}
	return t.things[at], true
}

// Drop lets a name go; whether it was there.
func (t *Table[K, V]) Drop(k K) bool {
	if t == nil {
		return false
	}
	at, found := slices.BinarySearch(t.names, k)
	if !found {
		return false
	}
	t.names = slices.Delete(t.names, at, at+1)
	t.things = slices.Delete(t.things, at, at+1)
	return true
}

// Len is how many names there are.
func (t *Table[K, V]) Len() int {
	if t == nil {
		return 0
	}
	return len(t.names)
}

// All goes through all, in the order of their names.
func (t *Table[K, V]) All() iter.Seq2[K, V] {
	return func(yield func(K, V) bool) {
		if t == nil {
			return
		}
		// Both lists as they are at the start: a table that is changed in the loop, though it must not be, then still lets it end.
		names, things := t.names, t.things
		for i, name := range names {
			if !yield(name, things[i]) {
				return
			}
		}
	}
}

// Clone is the same names and things, apart from it.
func (t *Table[K, V]) Clone() *Table[K, V] {
	if t == nil {
		return nil
	}
	return &Table[K, V]{names: slices.Clone(t.names), things: slices.Clone(t.things)}
}

// Keys is a table's names, in order.
func Keys[K cmp.Ordered, V any](t *Table[K, V]) []K {
	if t == nil {
		return nil
	}
	return slices.Clone(t.names)
}
