package burrow_test

import (
	"slices"
	"strconv"
	"strings"
	"testing"

	"burrow/api"
	"burrow/burrow"
	"burrow/disk"
)

const (
	none           = "\x00" // the context that has seen nothing
	minInt, maxInt = -1 << 63, 1<<63 - 1
)

var (
	plain   = api.Options{Node: 1, Roll: api.MinRoll}
	longKey = strings.Repeat("k", api.MaxKey)
	longest = strings.Repeat("v", api.MaxValue)
)

// ctx is the text of a clock, of nodes and counts by turns.
func ctx(l ...int) string {
	b := []byte{byte(len(l) / 2)}
	for i := 0; i < len(l); i += 2 {
		b = append(b, byte(l[i]))
		for k := 56; k >= 0; k -= 8 {
			b = append(b, byte(l[i+1]>>k))
		}
	}
	return string(b)
}

// nodes is the text of a clock of some nodes, each with the count 1.
func nodes(l ...int) string {
	var c []int
	for _, n := range l {
		c = append(c, n, 1)
	}
	return ctx(c...)
}

func open(t *testing.T, d *disk.Disk, o api.Options) *burrow.Store {
	t.Helper()
	s, e := burrow.Open(d, o)
	if s == nil || e != api.OK {
		t.Fatalf("P6: Open with %+v = %v, %d", o, s, e)
	}
	return s
}

// is holds an answer against what it should be.
func is(t *testing.T, what string, e api.Errno, want api.Errno) {
	t.Helper()
	if e != want {
		t.Errorf("%s = %d, want %d", what, e, want)
	}
}

// get holds a key's values and context against what they should be; without values there should be no such key.
func get(t *testing.T, s *burrow.Store, key, context string, values ...string) {
	t.Helper()
	want := api.OK
	if len(values) == 0 {
		want = api.ErrNone
	}
	l, c, e := s.Get(key)
	if e != want || c != context || !slices.Equal(l, values) {
		t.Errorf("P7: Get(%.12q) = %.60q, %q, %d, want %.60q, %q, %d", key, l, c, e, values, context, want)
	}
	if e != api.OK && l != nil {
		t.Errorf("P1: beside %d stands %#v", e, l)
	}
}

func counts(t *testing.T, s *burrow.Store, want int) {
	t.Helper()
	if n := s.Counter(); n != want {
		t.Errorf("P7: Counter() = %d, want %d", n, want)
	}
}

func hasKeys(t *testing.T, s *burrow.Store, want ...string) {
	t.Helper()
	if l := s.Keys(); !slices.Equal(l, want) {
		t.Errorf("P7: Keys() = %.60q, want %.60q", l, want)
	}
}

// fill puts n values by keys of their own.
func fill(t *testing.T, s *burrow.Store, n int) {
	t.Helper()
	for range n {
		is(t, "P7: Put", s.Put("n"+strconv.Itoa(s.Counter()), "value", none), api.OK)
	}
}

// image is all that a store tells: its counter, its keys, their values and contexts.
func image(t *testing.T, s *burrow.Store) string {
	t.Helper()
	var b strings.Builder
	b.WriteString(strconv.Itoa(s.Counter()))
	for _, key := range s.Keys() {
		l, c, e := s.Get(key)
		if e != api.OK || len(l) == 0 {
			t.Fatalf("P7: Get(%q), which Keys tells, = %q, %q, %d", key, l, c, e)
		}
		b.WriteString("; " + strconv.Quote(key) + ": " + strconv.Quote(c) + " " + strings.Join(quoted(l), " "))
	}
	return b.String()
}

func quoted(l []string) []string {
	var out []string
	for _, x := range l {
		out = append(out, strconv.Quote(x))
	}
	return out
}
