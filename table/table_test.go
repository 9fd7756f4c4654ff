package table_test

import (
	"math/rand"
	"slices"
	"testing"

	"burrow/table"
)

func TestTableOfZerosIsEmpty(t *testing.T) {
	var l table.Table[string, int]
	if v, there := l.Get(""); v != 0 || there || len(l.Keys()) != 0 {
		t.Errorf("an empty table has %d, %v, %q", v, there, l.Keys())
	}
	l.Delete("a")
	l.Put("", 1)
	if v, there := l.Get(""); v != 1 || !there || !slices.Equal(l.Keys(), []string{""}) {
		t.Errorf("the first key: %d, %v, %q", v, there, l.Keys())
	}
}

func TestTableTellsItsKeysInOrder(t *testing.T) {
	r := rand.New(rand.NewSource(1))
	var l table.Table[int, string]
	want := map[int]string{}
	for range 5000 {
		key, value := r.Intn(60)-30, string(rune('a'+r.Intn(26)))
		if r.Intn(2) == 0 {
			l.Put(key, value)
			want[key] = value
		} else {
			l.Delete(key)
			delete(want, key)
		}
		keys := l.Keys()
		if len(keys) != len(want) || !slices.IsSorted(keys) {
			t.Fatalf("%d keys, want %d: %v", len(keys), len(want), keys)
		}
		v, there := l.Get(key)
		if w, there2 := want[key]; v != w || there != there2 {
			t.Fatalf("Get(%d) = %q, %v, want %q, %v", key, v, there, w, there2)
		}
	}
}

func TestTableKeysAreNewMemory(t *testing.T) {
	var l table.Table[string, int]
	for _, key := range []string{"b", "a", "c"} {
		l.Put(key, 1)
	}
	keys := l.Keys()
	keys = keys[:cap(keys)]
	for i := range keys {
		keys[i] = "over"
	}
	if got := l.Keys(); !slices.Equal(got, []string{"a", "b", "c"}) {
		t.Errorf("the keys that were told are kept: %q", got)
	}
}

func TestTableAllGoesAlongTheKeysInOrder(t *testing.T) {
	var l table.Table[string, int]
	for range l.All() {
		t.Errorf("an empty table goes along a key")
	}
	for i, key := range []string{"b", "\xff", "a", "", "c"} {
		l.Put(key, i)
	}
	l.Delete("c")
	var keys []string
	for key, value := range l.All() {
		if want, _ := l.Get(key); value != want {
			t.Errorf("beside %q stands %d, want %d", key, value, want)
		}
		keys = append(keys, key)
	}
	if !slices.Equal(keys, []string{"", "a", "b", "\xff"}) {
		t.Errorf("the keys are %q", keys)
	}
	for key := range l.All() {
		if key != "" {
			t.Errorf("%q comes behind the end", key)
		}
		break
	}
}
