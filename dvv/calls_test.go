package dvv_test

import (
	"math/rand"
	"reflect"
	"runtime"
	"testing"

	"burrow/api"
	"burrow/dvv"
)

// wild are numbers in and out of what dots may have.
var wild = []int{minInt, minInt + 1, -16, -1, 0, 0, 1, 1, 2, 2, 3, 4, 5, 7, 8, 9, 15, 16, 255, 256, api.MaxCount - 1, api.MaxCount, api.MaxCount + 1, maxInt - 1, maxInt}

func anyNumber(r *rand.Rand) int { return wild[r.Intn(len(wild))] }

func anyList(r *rand.Rand) []api.Entry {
	if r.Intn(2) == 0 {
		return draw(r, api.MaxEntries)
	}
	var c []api.Entry
	for range r.Intn(12) {
		c = append(c, api.Entry{Node: anyNumber(r), Count: anyNumber(r)})
	}
	return c
}

func anyText(r *rand.Rand) string {
	b := make([]byte, r.Intn(30))
	for i := range b {
		b[i] = byte(r.Intn(256) & r.Intn(256) & r.Intn(256))
	}
	return string(b)
}

func anySet(r *rand.Rand) api.Set {
	s := api.Set{Clock: anyList(r)}
	for range r.Intn(9) {
		s.List = append(s.List, sib(anyNumber(r), anyNumber(r), anyText(r)))
	}
	return s
}

func TestP1AnyArgumentsAtAll(t *testing.T) {
	r := rand.New(rand.NewSource(1))
	for range 30000 {
		a, b, s, text := anyList(r), anyList(r), anySet(r), anyText(r)
		node, count := anyNumber(r), anyNumber(r)
		dvv.Covers(a, node, count)
		c, e := dvv.Join(a, b)
		if e != api.OK && c != nil {
			t.Fatalf("P1: Join(%v, %v) = %v, %d", a, b, c, e)
		}
		x, e := dvv.Encode(a)
		if (e == api.OK) == (x == "") {
			t.Fatalf("P1: Encode(%v) = %q, %d", a, x, e)
		}
		if c, e := dvv.Decode(text); e != api.OK && c != nil {
			t.Fatalf("P1: Decode(%q) = %v, %d", text, c, e)
		}
		if y, e := dvv.Update(s, b, node, count, text); e != api.OK && !zero(y) {
			t.Fatalf("P1: Update(%v, %v, %d, %d, %q) = %v, %d", s, b, node, count, text, y, e)
		}
		if y, e := dvv.Discard(s, b); e != api.OK && !zero(y) {
			t.Fatalf("P1: Discard(%v, %v) = %v, %d", s, b, y, e)
		}
	}
}

var markEntry = api.Entry{Node: 9, Count: 99}
var markValue = api.Sibling{Node: 9, Count: 99, Value: "mark"}

// lists are clocks to hand in: alike, apart, empty, and with errors.
func lists() [][]api.Entry {
	return [][]api.Entry{nil, {}, clock(1, 1), clock(1, 2), clock(0, 5, 3, 3), nodes(0, 1, 2, 3, 4, 5, 6, 7), clock(2, 1, 1, 1)}
}

func TestP2JoinOwnsWhatItAnswers(t *testing.T) {
	for _, a := range lists() {
		for _, b := range lists() {
			x, y := lay(a, markEntry), lay(b, markEntry)
			c, e := dvv.Join(x.list(), y.list())
			if !x.untouched() || !y.untouched() {
				t.Fatalf("P2: Join(%v, %v) writes into what is handed in", a, b)
			}
			scribble(c, api.Entry{Node: 77, Count: 77})
			if !x.untouched() || !y.untouched() {
				t.Fatalf("P2: Join(%v, %v) answers what was handed in", a, b)
			}
			if d, f := dvv.Join(x.list(), y.list()); e != f || len(d) != len(c) || len(d) > 0 && d[0].Node == 77 {
				t.Fatalf("P2: Join(%v, %v) the second time: %v, %d", a, b, d, f)
			}
		}
	}
}

func TestP2TheOtherCallsOfClocksWriteNothing(t *testing.T) {
	for _, a := range lists() {
		x := lay(a, markEntry)
		dvv.Covers(x.list(), 1, 1)
		text, _ := dvv.Encode(x.list())
		if !x.untouched() {
			t.Fatalf("P2: Covers or Encode writes into %v", a)
		}
		c, _ := dvv.Decode(text)
		scribble(c, api.Entry{Node: 77, Count: 77})
		if d, _ := dvv.Decode(text); len(d) != len(c) || len(d) > 0 && d[0].Node == 77 {
			t.Fatalf("P2: Decode(%q) answers the same memory twice: %v", text, d)
		}
	}
}

// sets are sets to hand in, the last ones with errors.
func sets() []api.Set {
	return []api.Set{
		{}, {Clock: []api.Entry{}, List: []api.Sibling{}},
		set(clock(1, 3)), row(1), row(3), row(6),
		set(clock(1, 3, 2, 5), sib(1, 2, "b"), sib(1, 3, "c")),
		set(nodes(0, 1, 2, 3, 4, 5, 6, 7), sib(0, 1, ""), sib(7, 1, "")),
		set(clock(1, 1), sib(1, 2, "")),
	}
}

// calls are Update, of dots at the start and the end of what sets have, and Discard.
func calls() map[string]func(api.Set, []api.Entry) (api.Set, api.Errno) {
	return map[string]func(api.Set, []api.Entry) (api.Set, api.Errno){
		"Update of 0:9": func(s api.Set, c []api.Entry) (api.Set, api.Errno) { return dvv.Update(s, c, 0, 9, "new") },
		"Update of 1:9": func(s api.Set, c []api.Entry) (api.Set, api.Errno) { return dvv.Update(s, c, 1, 9, "new") },
		"Update of 7:9": func(s api.Set, c []api.Entry) (api.Set, api.Errno) { return dvv.Update(s, c, 7, 9, "new") },
		"Discard":       dvv.Discard,
	}
}

func TestP2SetsOwnWhatTheyAnswer(t *testing.T) {
	for what, call := range calls() {
		for _, s := range sets() {
			for _, c := range lists() {
				own(t, what, call, s, c)
			}
		}
	}
}

// own makes a call, and writes over all of its answer's memory, list by list: nothing else may change by that.
func own(t *testing.T, what string, call func(api.Set, []api.Entry) (api.Set, api.Errno), s api.Set, c []api.Entry) {
	t.Helper()
	x, l, y := lay(s.Clock, markEntry), lay(s.List, markValue), lay(c, markEntry)
	in := api.Set{Clock: x.list(), List: l.list()}
	untouched := func() bool { return x.untouched() && l.untouched() && y.untouched() }
	got, e := call(in, y.list())
	if !untouched() {
		t.Fatalf("P2: %s writes into %v or %v", what, s, c)
	}
	again, f := call(in, y.list())
	if e != f || !alike(got, again) {
		t.Fatalf("P2: %s of %v and %v: %v, %d, then %v, %d", what, s, c, got, e, again, f)
	}
	clock := append([]api.Entry(nil), again.Clock...)
	list := append([]api.Sibling(nil), again.List...)
	scribble(got.Clock, api.Entry{Node: 77, Count: 77})
	scribble(got.List, api.Sibling{Node: 77, Count: 77, Value: "over"})
	if !untouched() || !alike(again, set(clock, list...)) {
		t.Fatalf("P2: %s of %v and %v answers memory that is not new", what, s, c)
	}
}

func TestP2AllArgumentsOfOneMemory(t *testing.T) {
	c := clock(1, 3)
	s := set(c, sib(1, 2, "a"))
	if got, e := dvv.Join(c, c); e != api.OK || !reflect.DeepEqual(got, clock(1, 3)) {
		t.Errorf("P2: Join of a clock and itself: %v, %d", got, e)
	}
	if got, e := dvv.Update(s, s.Clock, 1, 4, "b"); e != api.OK || !alike(got, set(clock(1, 4), sib(1, 4, "b"))) {
		t.Errorf("P2: Update with the set's own clock: %v, %d", got, e)
	}
	if got, e := dvv.Discard(s, s.Clock); e != api.OK || !alike(got, set(clock(1, 3))) {
		t.Errorf("P2: Discard with the set's own clock: %v, %d", got, e)
	}
	if !alike(s, set(clock(1, 3), sib(1, 2, "a"))) {
		t.Errorf("P2: the set that was handed in reads %v", s)
	}
}

func TestP2NoGoroutineIsLeft(t *testing.T) {
	before := runtime.NumGoroutine()
	for range 100 {
		dvv.Join(clock(1, 1), clock(2, 2))
		dvv.Update(row(3), clock(1, 1), 1, 4, "x")
		dvv.Discard(row(3), clock(1, 1))
	}
	if n := runtime.NumGoroutine(); n > before {
		t.Errorf("P2: %d goroutines, %d ahead of the calls", n, before)
	}
}
