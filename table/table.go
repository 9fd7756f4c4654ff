// Package table: what is kept by key.
package table

import (
	"cmp"
	"iter"
	"maps"
	"slices"
)

// Table holds a value for each of its keys. One of zeros is empty, and may be used.
type Table[K cmp.Ordered, V any] struct {
	values map[K]V
}

// Get tells what is kept by a key, and whether anything is.
func (t *Table[K, V]) Get(key K) (V, bool) {
	value, there := t.values[key]
	return value, there
}

// Put keeps a value by a key, in the place of the one that was kept by it.
func (t *Table[K, V]) Put(key K, value V) {
	if t.values == nil {
		t.values = map[K]V{}
	}
	t.values[key] = value
}

// Delete takes a key away, if it is there.
func (t *Table[K, V]) Delete(key K) { delete(t.values, key) }

// Keys is all keys, rising, in new memory.
func (t *Table[K, V]) Keys() []K { return slices.Sorted(maps.Keys(t.values)) }

// All goes along the keys, rising, and what is kept by them.
func (t *Table[K, V]) All() iter.Seq2[K, V] {
	return func(yield func(K, V) bool) {
		for _, key := range t.Keys() {
			if !yield(key, t.values[key]) {
				return
			}
		}
	}
}
