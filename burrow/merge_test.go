package burrow_test

import (
	"math/rand"
	"slices"
	"strconv"
	"testing"

	"burrow/api"
	"burrow/burrow"
	"burrow/disk"
)

// mostBytes is how many bytes all files may have behind a Merge, as P10 tells it.
func mostBytes(s *burrow.Store) int {
	n := 300
	for _, key := range s.Keys() {
		values, context, _ := s.Get(key)
		set := 2 + 9*int(context[0])
		for _, v := range values {
			set += 12 + len(v)
		}
		n += 60 + 2*len(key) + 2*set
	}
	return n
}

// merged holds a store behind a Merge that answered OK against P10.
func merged(t *testing.T, d *disk.Disk, s *burrow.Store, want string) {
	t.Helper()
	if got := image(t, s); got != want {
		t.Fatalf("P10: behind Merge the store tells %s, want %s", got, want)
	}
	if n, most := d.Bytes(), mostBytes(s); n > most {
		t.Fatalf("P10: behind Merge there are %d bytes, at most %d, in %q", n, most, d.List())
	}
}

// merge makes a call of Merge that has the room it needs, and holds what it answers, and the store behind it, against P8 and P10.
func (l *life) merge(t *testing.T, s *burrow.Store) api.Errno {
	t.Helper()
	failed, keys, n := l.d.Failed(), s.Keys(), s.Counter()
	was := ""
	if !l.d.Dead() {
		was = image(t, s)
	}
	e := s.Merge()
	if e != api.OK && (e != api.ErrDisk || l.d.Failed() == failed) {
		t.Fatalf("P8: Merge with %d failed calls = %d", l.d.Failed()-failed, e)
	}
	counts(t, s, n)
	hasKeys(t, s, keys...)
	if e == api.OK {
		l.held = l.sure
	}
	switch {
	case l.d.Dead():
	case e == api.OK:
		merged(t, l.d, s, was)
	case image(t, s) != was:
		t.Fatalf("P8: behind a Merge that failed the store tells %s, want %s", image(t, s), was)
	}
	return e
}

// shape is mutations behind which a store is of some shape.
type shape struct {
	name      string
	mutations []mutation
}

func shapes() []shape {
	put := func(key, value, context string) mutation {
		return mutation{key: key, value: value, context: context}
	}
	del := func(key, context string) mutation { return mutation{gone: true, key: key, context: context} }
	// many is a mutation for each of n numbers.
	many := func(n int, of func(i int) mutation) (l []mutation) {
		for i := range n {
			l = append(l, of(i))
		}
		return l
	}
	// over is for values each of which is put in the place of the one before.
	over := func(behind int) func(i int) mutation {
		return func(i int) mutation { return put("k", longest, ctx([]int{1, behind + i}[:2*min(i, 1)]...)) }
	}
	return []shape{
		{"nothing", nil},
		{"one key", []mutation{put("k", "v", none)}},
		{"an empty text", []mutation{put("\x00", "", none)}},
		{"all gone", []mutation{put("k", longest, none), put("j", "v", none), del("j", ctx(1, 2)), del("k", ctx(1, 1))}},
		{"half gone", []mutation{put("k", "a", none), put("k", "b", none), del("k", ctx(1, 1)), put("j", "", none), del("j", ctx(1, 4))}},
		{"gone and there again", []mutation{put("k", "a", none), del("k", ctx(1, 1)), put("k", "b", none), put("k", "c", ctx(1, 3)), put("k", "d", none)}},
		{"six values", many(6, func(int) mutation { return put("k", "", none) })},
		{"as much as may be", many(6, func(int) mutation { return put(longKey, longest, nodes(2, 3, 4, 5, 6, 7, 8)) })},
		{"one value over the other", many(60, over(0))},
		{"gone behind a merge, in a tenth file", append(append([]mutation{put("gone", "", none)}, many(9, over(1))...), del("gone", ctx(1, 1)))},
		{"tiny keys", many(70, func(i int) mutation { return put(string([]byte{byte(i)}), "", none) })},
		{"clocks of other nodes", many(50, func(i int) mutation { return put("key"+strconv.Itoa(i), longest[:4*i], nodes(2, 5, 9+i%4)) })},
	}
}

// build gives a disk a store of some shape. The last few mutations are not sure. Sometimes there was a merge among them.
func build(t *testing.T, o api.Options, x shape) (*life, *burrow.Store) {
	t.Helper()
	l := newLife()
	s, m := l.open(t, o)
	for i, a := range x.mutations {
		is(t, "P7: a mutation of "+x.name, l.do(t, s, m, o, a), api.OK)
		if i == len(x.mutations)-3 && i%2 == 0 {
			is(t, "P10: Merge", l.merge(t, s), api.OK)
		} else if i == len(x.mutations)-3 {
			is(t, "P9: Sync", l.makeSure(t, s, s.Sync), api.OK)
		}
	}
	if len(l.done) != len(x.mutations) {
		t.Fatalf("of the %d mutations of %s %d were some", len(x.mutations), x.name, len(l.done))
	}
	return l, s
}

// TestP10EachShape merges stores of each shape, twice, and what is found behind them.
func TestP10EachShape(t *testing.T) {
	for _, x := range shapes() {
		for _, o := range someOptions() {
			l, s := build(t, o, x)
			for range 2 {
				is(t, "P10: Merge of "+x.name, l.merge(t, s), api.OK)
			}
			for _, keep := range [][]int{alike(0, 0), nil, alike(1, 1)} {
				c := l.copy()
				c.crash(keep)
				c.mergeAndGoOn(t, o)
			}
			l.mergeAndGoOn(t, o)
		}
	}
}

// mergeAndGoOn opens a disk that does what it should, merges it, and goes on.
func (l *life) mergeAndGoOn(t *testing.T, o api.Options) {
	t.Helper()
	s, _ := l.open(t, o)
	is(t, "P10: Merge", l.merge(t, s), api.OK)
	l.goOn(t, o)
}

// TestP10DrawnShapes draws mutations, and merges, opens and crashes among them.
func TestP10DrawnShapes(t *testing.T) {
	for seed := range 60 {
		r := rand.New(rand.NewSource(int64(seed)))
		l := newLife()
		for range 6 {
			o := anyOptions(r, 1)
			s, m := l.open(t, o)
			for range 2 {
				for range r.Intn(60) {
					l.do(t, s, m, o, anyMutation(r, s))
				}
				is(t, "P10: Merge", l.merge(t, s), api.OK)
			}
			for range r.Intn(20) {
				l.do(t, s, m, o, anyMutation(r, s))
			}
			if r.Intn(2) == 0 {
				l.crash(anyKeep(r))
			}
		}
	}
}

// TestP10WhatIsDoneBehindAMerge: the store goes on as if there had been none.
func TestP10WhatIsDoneBehindAMerge(t *testing.T) {
	d := disk.New(1 << 20)
	s := open(t, d, plain)
	for _, v := range []string{"a", "b", "c"} {
		is(t, "P7: Put", s.Put("k", v, none), api.OK)
	}
	is(t, "P7: Put", s.Put("k", "d", ctx(1, 1, 7, 7)), api.OK)
	is(t, "P10: Merge", s.Merge(), api.OK)
	get(t, s, "k", ctx(1, 4, 7, 7), "b", "c", "d")
	is(t, "P7: Put ahead of the counter", s.Put("k", "x", ctx(1, 5)), api.ErrContext)
	is(t, "P7: Delete of what is gone", s.Delete("k", ctx(1, 1)), api.OK)
	is(t, "P7: Put over one of them", s.Put("k", "e", ctx(1, 2)), api.OK)
	get(t, s, "k", ctx(1, 5, 7, 7), "c", "d", "e")
	s = open(t, d, plain)
	get(t, s, "k", ctx(1, 5, 7, 7), "c", "d", "e")
	is(t, "P7: Delete", s.Delete("k", ctx(1, 5)), api.OK)
	is(t, "P10: Merge", s.Merge(), api.OK)
	counts(t, s, 6)
	d.Crash(alike(0, 0))
	s = open(t, d, plain)
	counts(t, s, 6)
	hasKeys(t, s)
	is(t, "P7: Put", s.Put("k", "f", none), api.OK)
	get(t, s, "k", ctx(1, 7), "f")
}

// TestP10EveryCountsFromAMerge: a Merge holds all, so the next mutations are counted from there.
func TestP10EveryCountsFromAMerge(t *testing.T) {
	for first := range 5 {
		o := api.Options{Node: 1, Every: 5, Roll: api.MinRoll}
		d := disk.New(1 << 20)
		s := open(t, d, o)
		fill(t, s, first)
		is(t, "P10: Merge", s.Merge(), api.OK)
		fill(t, s, 5)
		d.Crash(alike(0, 0))
		counts(t, open(t, d, o), first+5)
	}
}

// mergeKeeps are things that a crash may keep of a Merge: of a small one each number of steps, and of the bytes all, none, or parts.
func mergeKeeps(r *rand.Rand, small bool) [][]int {
	keeps := [][]int{nil, alike(0, 0)}
	if !small {
		return append(keeps, anyKeep(r), anyKeep(r), anyKeep(r))
	}
	for steps := range 16 {
		keeps = append(keeps, []int{steps}, alike(steps, 0), alike(steps, 7*steps+1))
	}
	return keeps
}

// TestP10DiesAtEachCall lets the disk die at each changing call of a Merge in turn, and crash; die again in Open, or fail in another Merge.
func TestP10DiesAtEachCall(t *testing.T) {
	r := rand.New(rand.NewSource(1))
	for _, x := range shapes() {
		for _, o := range []api.Options{plain, {Node: 1, Every: 2, Roll: 1000}} {
			e := api.ErrDisk
			for at := 0; e == api.ErrDisk; at++ {
				l, s := build(t, o, x)
				l.d.Die(at)
				if e = l.merge(t, s); e == api.ErrDisk {
					l.dead(t, s, o)
				}
				for i, keep := range mergeKeeps(r, len(x.mutations) < 10) {
					c := l.copy()
					c.crash(keep)
					c.d.Die(i % 3)
					c.tryOpen(t, o)
					c.crash(keep)
					c.failInMerge(t, o, i)
					c.mergeAndGoOn(t, o)
				}
			}
		}
	}
}

// failInMerge opens a disk and lets it fail in Merge.
func (l *life) failInMerge(t *testing.T, o api.Options, at int) {
	t.Helper()
	s, _ := l.open(t, o)
	l.d.Fail(at)
	l.merge(t, s)
	l.heal()
}

// TestP10FailsOnceAtEachCall lets each changing call of a Merge fail in turn. Without a crash all mutations are found, and behind one all that were held.
func TestP10FailsOnceAtEachCall(t *testing.T) {
	r := rand.New(rand.NewSource(1))
	for _, x := range shapes() {
		for _, o := range []api.Options{plain, {Node: 1, Every: 2, Roll: 1000}} {
			for at := 0; ; at++ {
				l, s := build(t, o, x)
				failed := l.d.Failed()
				l.d.Fail(at)
				e := l.merge(t, s)
				if l.d.Failed() == failed {
					break
				}
				if e == api.ErrDisk {
					refused(t, s)
					is(t, "P8: Close", s.Close(), api.OK)
				}
				for i, keep := range mergeKeeps(r, len(x.mutations) < 10) {
					c := l.copy()
					c.crash(keep)
					c.failInMerge(t, o, i)
					c.mergeAndGoOn(t, o)
				}
				l.mergeAndGoOn(t, o)
			}
		}
	}
}

// TestP10CrashesBehindAMerge lets a crash keep any part of what was done behind a Merge, and then again behind one.
func TestP10CrashesBehindAMerge(t *testing.T) {
	for _, x := range shapes() {
		for steps := range 4 {
			for bytes := 0; bytes < api.MinRoll; bytes += 1 + bytes/3 {
				l, s := build(t, plain, x)
				is(t, "P10: Merge", l.merge(t, s), api.OK)
				l.crash(alike(steps, bytes))
				l.goOn(t, plain)
				s, m := l.open(t, plain)
				is(t, "P10: Merge", l.merge(t, s), api.OK)
				for range 3 {
					l.do(t, s, m, plain, mutation{key: "behind", value: longest, context: none})
				}
				l.crash(alike(steps, bytes))
				l.mergeAndGoOn(t, plain)
			}
		}
	}
}

// TestP10WithoutRoom fills disks of many sizes, with values that live and with such that do not, and merges them.
func TestP10WithoutRoom(t *testing.T) {
	for capacity := api.Spare; capacity < 50000; capacity += 311 {
		for _, keys := range []int{1, 9, 1 << 20} {
			d := disk.New(capacity)
			s := open(t, d, plain)
			for i := 0; i < 60 && d.Left() >= api.Spare; i++ {
				context := none
				if i >= keys {
					context = ctx(1, i+1-keys)
				}
				is(t, "P8: Put while there is room", s.Put("k"+strconv.Itoa(i%keys), longest, context), api.OK)
			}
			fullMerge(t, d, s)
			want := image(t, s)
			if got := image(t, open(t, d, plain)); got != want {
				t.Errorf("P9: behind a Merge without room there is %s, want %s", got, want)
			}
		}
	}
}

// fullMerge merges a store that may have no room for it, and holds what comes of it against P8.
func fullMerge(t *testing.T, d *disk.Disk, s *burrow.Store) {
	t.Helper()
	want, room, names, bytes := image(t, s), d.Left() >= api.Spare+2*d.Bytes(), d.List(), d.Bytes()
	for range 2 {
		e := s.Merge()
		if e == api.OK {
			merged(t, d, s, want)
			return
		}
		if e != api.ErrFull || room {
			t.Fatalf("P8: Merge with %d of %d bytes left = %d", d.Left(), d.Left()+bytes, e)
		}
		if got := image(t, s); got != want || d.Bytes() != bytes || !slices.Equal(d.List(), names) {
			t.Fatalf("P8: behind ErrFull there is %s in %q, want %s in %q", got, d.List(), want, names)
		}
	}
	e := s.Put("k0", "v", none)
	if full := d.Left() < api.Spare; e != api.OK && (e != api.ErrFull || !full) {
		t.Errorf("P8: Put behind a Merge without room, with %d bytes left, = %d", d.Left(), e)
	}
	is(t, "P9: Sync behind a Merge without room", s.Sync(), api.OK)
}

// TestP10JustTheRoom merges stores on disks that have just the room with which no Merge may answer that there is none. Short keys with empty values are those that grow the most.
func TestP10JustTheRoom(t *testing.T) {
	many := shape{name: "many short keys"}
	for i := range 2000 {
		many.mutations = append(many.mutations, mutation{key: string([]byte{byte(i), byte(i >> 8)})[:1+min(i>>8, 1)], context: none})
	}
	for _, x := range append(shapes(), many) {
		bytes := 0
		for range 2 {
			d := disk.New(api.Spare + 3*bytes)
			if bytes == 0 {
				d = disk.New(1 << 20)
			}
			s := open(t, d, plain)
			for _, a := range x.mutations {
				is(t, "P7: a mutation of "+x.name, a.do(s), api.OK)
			}
			if bytes = d.Bytes(); d.Left() < api.Spare+2*bytes {
				t.Fatalf("%d bytes, and %d are left", bytes, d.Left())
			}
			want := image(t, s)
			is(t, "P8: Merge with just the room, of "+x.name, s.Merge(), api.OK)
			merged(t, d, s, want)
		}
	}
}

func TestP10MergeOfADiskOfNoBytes(t *testing.T) {
	for _, capacity := range []int{-1, 0, 1, api.Spare - 1} {
		d := disk.New(capacity)
		s := open(t, d, plain)
		if e := s.Merge(); e != api.OK && e != api.ErrFull {
			t.Errorf("P8: Merge of a disk of %d bytes = %d", capacity, e)
		}
		counts(t, s, 0)
	}
	is(t, "P10: Merge of an empty disk with just the room", open(t, disk.New(api.Spare), plain).Merge(), api.OK)
}
