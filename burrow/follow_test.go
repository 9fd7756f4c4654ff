package burrow_test

import (
	"math/rand"
	"slices"
	"strconv"
	"testing"

	"burrow/api"
	"burrow/burrow"
	"burrow/disk"
)

// written is a value that was put: by which key; behind how many mutations it stood, and behind how many it was taken away (0: it was not).
type written struct {
	key, value  string
	put, gone   int
	node, count int // its dot
}

// seen is what a Get has told: the values, the context, and the counter.
type seen struct {
	values  []string
	context string
	counter int
}

// memory is what callers know of a store: what they have written into it, and what it has told them last.
type memory struct {
	all  []written
	last map[string]seen
}

// standing is the values that a key must have, in the order of their dots.
func (m *memory) standing(key string) []string {
	var l []string
	for _, w := range m.all {
		if w.key == key && w.gone == 0 {
			l = append(l, w.value)
		}
	}
	return l
}

// forget lets the memory be what it was behind so many mutations.
func (m *memory) forget(counter int) {
	m.all = slices.DeleteFunc(m.all, func(w written) bool { return w.put > counter })
	for i := range m.all {
		if m.all[i].gone > counter {
			m.all[i].gone = 0
		}
	}
	for key, x := range m.last {
		if x.counter > counter {
			delete(m.last, key)
		}
	}
}

// ask gets a key, and holds the answer against what must stand there.
func (m *memory) ask(t *testing.T, s *burrow.Store, key string) {
	t.Helper()
	values, context, e := s.Get(key)
	if e != api.OK {
		values, context = nil, none
	}
	if want := m.standing(key); !slices.Equal(values, want) {
		t.Fatalf("P12: behind %d mutations %q has %q, want %q", s.Counter(), key, values, want)
	}
	m.last[key] = seen{values: values, context: context, counter: s.Counter()}
}

// takeAway notes that a key's values were taken away by who had been told them.
func (m *memory) takeAway(key string, told []string, counter int) {
	for i, w := range m.all {
		if w.key == key && w.gone == 0 && slices.Contains(told, w.value) {
			m.all[i].gone = counter
		}
	}
}

// put puts a value that no other is like, with what the key's last Get has told.
func (m *memory) put(t *testing.T, s *burrow.Store, key string, value string) {
	t.Helper()
	last, told := m.last[key]
	if !told {
		last.context = none
	}
	if s.Put(key, value, last.context) != api.OK {
		return
	}
	m.takeAway(key, last.values, s.Counter())
	w := written{key: key, value: value, put: s.Counter(), node: 1, count: s.Counter()}
	for _, x := range m.all {
		if x.node == w.node && x.count == w.count {
			t.Fatalf("P12: the dot %d:%d of %q is given to %q", w.node, w.count, x.value, value)
		}
	}
	m.all = append(m.all, w)
	_, context, _ := s.Get(key)
	if c, ok := readContext(context); !ok || c[1] != s.Counter() {
		t.Fatalf("P12: the dot of %q is not %d: the context is %q", value, s.Counter(), context)
	}
}

// drop deletes what a key's last Get has told.
func (m *memory) drop(s *burrow.Store, key string) {
	before := s.Counter()
	if s.Delete(key, m.last[key].context) == api.OK && s.Counter() > before {
		m.takeAway(key, m.last[key].values, s.Counter())
	}
}

// TestP12WhatFollows draws callers that lean on what follows: what they have not seen is not written over, what was taken away does not come back, and no dot is given twice, whatever the disk does.
func TestP12WhatFollows(t *testing.T) {
	for seed := range 300 {
		r := rand.New(rand.NewSource(int64(seed)))
		d := disk.New(1 << 30)
		m := &memory{last: map[string]seen{}}
		for range 10 {
			s := open(t, d, anyOptions(r, 1))
			m.forget(s.Counter())
			for key := range 4 {
				m.ask(t, s, "k"+strconv.Itoa(key))
			}
			if r.Intn(3) == 0 {
				m.last = map[string]seen{}
			}
			m.drawCalls(t, r, d, s, seed)
			s.Close()
			anyTampering(r, d)
			if d.Dead() || r.Intn(2) == 0 {
				d.Crash(anyKeep(r))
			}
			d.Fail(1 << 30)
			d.Die(1 << 30)
		}
	}
}

// drawCalls draws calls till the disk fails or the time is over. A Put or Delete that fails may be found done: it is let alone.
func (m *memory) drawCalls(t *testing.T, r *rand.Rand, d *disk.Disk, s *burrow.Store, seed int) {
	t.Helper()
	for i := range r.Intn(60) {
		key := "k" + strconv.Itoa(r.Intn(4))
		switch r.Intn(8) {
		case 0, 1, 2:
			m.put(t, s, key, strconv.Itoa(seed)+"/"+strconv.Itoa(len(m.all))+"/"+strconv.Itoa(i))
		case 3, 4:
			m.drop(s, key)
		case 5, 6:
			m.ask(t, s, key)
		case 7:
			(&life{d: d}).drawFailure(r, 40)
			e := s.Merge()
			if d.Dead() || e == api.ErrDisk {
				return
			}
			d.Fail(1 << 30)
			d.Die(1 << 30)
		}
	}
}

// TestP12Contexts is P12 by hand: two callers, each with what it has seen.
func TestP12Contexts(t *testing.T) {
	d := disk.New(1 << 20)
	s := open(t, d, plain)
	is(t, "P7: Put", s.Put("k", "a", none), api.OK)
	_, one, _ := s.Get("k")
	is(t, "P7: Put", s.Put("k", "b", one), api.OK)
	is(t, "P10: Merge", s.Merge(), api.OK)
	is(t, "P7: Put with what was seen ahead of it all", s.Put("k", "c", one), api.OK)
	get(t, s, "k", ctx(1, 3), "b", "c")
	_, two, _ := s.Get("k")
	is(t, "P7: Delete", s.Delete("k", two), api.OK)
	is(t, "P10: Merge", s.Merge(), api.OK)
	for range 3 {
		d.Crash(alike(0, 0))
		s = open(t, d, plain)
		counts(t, s, 4)
		get(t, s, "k", "")
		is(t, "P10: Merge", s.Merge(), api.OK)
	}
	is(t, "P7: Put with a context of what is gone", s.Put("k", "d", two), api.OK)
	get(t, s, "k", ctx(1, 5), "d")
	is(t, "P7: Delete with a context of what is gone", s.Delete("k", two), api.OK)
	get(t, s, "k", ctx(1, 5), "d")
	is(t, "P7: Put with a context of what is gone", s.Put("k", "e", one), api.OK)
	get(t, s, "k", ctx(1, 6), "d", "e")
}
