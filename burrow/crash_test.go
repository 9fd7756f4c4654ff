package burrow_test

import (
	"math/rand"
	"testing"

	"burrow/api"
	"burrow/burrow"
	"burrow/disk"
)

// act is a call of the store that may change something: a Put, a Delete, or, with a name, Sync or Merge.
type act struct {
	name string
	mutation
}

// script is acts of all kinds, for a store on an empty disk. They go through some files of the least size.
func script() []act {
	put := func(key, value, context string) act {
		return act{mutation: mutation{key: key, value: value, context: context}}
	}
	del := func(key, context string) act { return act{mutation: mutation{gone: true, key: key, context: context}} }
	return []act{
		put("a", "1", none), put("a", "2", none), put("b", longest, ctx(1, 1)),
		{name: "Sync"},
		put("a", "4", ctx(1, 2)), del("b", ctx(1, 3)), put("b", longest[:99], ctx(2, 7)),
		del("none", none), put("a", "x", ""),
		put(longKey, longest, nodes(2, 3, 4, 5, 6, 7, 8)), put("b", longest, none),
		{name: "Merge"},
		del("a", ctx(1, 4)), put("c", "", none), put("a", longest, ctx(1, 10)), del(longKey, ctx(1, 7)),
		{name: "Sync"}, {name: "Sync"},
		put("a", "12", ctx(1, 11)), del("b", ctx(1, 6)), put("d", longest, none), put("d", longest, none), del("d", ctx(1, 15)),
	}
}

// play makes the calls of a script, up to one that fails.
func (l *life) play(t *testing.T, s *burrow.Store, m *model, o api.Options, acts []act) api.Errno {
	t.Helper()
	for _, a := range acts {
		var e api.Errno
		switch a.name {
		case "Sync":
			e = l.makeSure(t, s, s.Sync)
		case "Merge":
			e = l.merge(t, s)
		default:
			e = l.do(t, s, m, o, a.mutation)
		}
		if e == api.ErrDisk {
			return e
		}
	}
	return api.OK
}

// someOptions are options with each way to make sure of things: never by itself, always, and now and then.
func someOptions() []api.Options {
	return []api.Options{
		{Node: 1, Every: 0, Roll: api.MinRoll},
		{Node: 1, Every: 1, Roll: api.MinRoll},
		{Node: 1, Every: 3, Roll: api.MinRoll},
		{Node: 1, Every: 0, Roll: api.MaxRoll},
	}
}

func newLife() *life { return &life{d: disk.New(1 << 20)} }

// someKeeps are things that a crash may keep: all, nothing, and parts.
func someKeeps() [][]int {
	keeps := [][]int{nil}
	for steps := range 5 {
		for _, bytes := range []int{0, 1, 11, 100, 222} {
			keeps = append(keeps, alike(steps, bytes))
		}
	}
	return keeps
}

// alike is for a crash that keeps so many steps, and of each file so many bytes that are not sure.
func alike(steps int, bytes int) []int {
	keep := []int{steps}
	for range 40 {
		keep = append(keep, bytes)
	}
	return keep
}

// TestP9EachPartThatACrashKeeps lets the store crash behind each act, and keeps each number of steps and of bytes; and then again behind what is found.
func TestP9EachPartThatACrashKeeps(t *testing.T) {
	for _, o := range someOptions() {
		for n := range len(script()) + 1 {
			l := newLife()
			s, m := l.open(t, o)
			is(t, "P8: a script on a disk that does what it should", l.play(t, s, m, o, script()[:n]), api.OK)
			if n == len(script()) {
				counts(t, s, 17)
			}
			for steps := range 4 {
				for bytes := 0; bytes < api.MinRoll; bytes += 1 + bytes/9 {
					c := l.copy()
					c.crash(alike(steps, bytes))
					c.goOn(t, o)
				}
			}
		}
	}
}

// goOn opens a disk, goes on, and lets it crash twice: behind what was not made sure of, and behind Sync.
func (l *life) goOn(t *testing.T, o api.Options) {
	t.Helper()
	s, m := l.open(t, o)
	for _, context := range []string{none, ctx(1, s.Counter()+1)} {
		l.do(t, s, m, o, mutation{key: "more", value: "v", context: context})
	}
	c := l.copy()
	c.crash(alike(0, 0))
	c.open(t, o)
	is(t, "P9: Sync", l.makeSure(t, s, s.Sync), api.OK)
	l.crash(alike(0, 0))
	l.open(t, o)
}

// TestP9DiesAtEachCall lets the disk die at each changing call of a script in turn, crash, die again in Open, and crash again.
func TestP9DiesAtEachCall(t *testing.T) {
	for _, o := range someOptions() {
		for at := 0; ; at++ {
			l := newLife()
			s, m := l.open(t, o)
			l.d.Die(at)
			if l.play(t, s, m, o, script()) != api.ErrDisk {
				break
			}
			l.dead(t, s, o)
			for _, keep := range someKeeps() {
				for behind := range 4 {
					c := l.copy()
					c.crash(keep)
					c.d.Die(behind)
					c.tryOpen(t, o)
					c.crash(keep)
					c.goOn(t, o)
				}
			}
		}
	}
}

// dead holds a store whose disk has died in a call against what P8 says, and Open of that disk.
func (l *life) dead(t *testing.T, s *burrow.Store, o api.Options) {
	t.Helper()
	n, keys := s.Counter(), s.Keys()
	refused(t, s)
	for _, key := range []string{"a", "none"} {
		if v, c, e := s.Get(key); v != nil || c != "" || e != api.ErrDisk {
			t.Fatalf("P7: Get(%q) of a dead disk = %q, %q, %d", key, v, c, e)
		}
	}
	counts(t, s, n)
	hasKeys(t, s, keys...)
	is(t, "P8: Close", s.Close(), api.OK)
	if u, e := burrow.Open(l.d, o); u != nil || e != api.ErrDisk {
		t.Fatalf("P6: Open of a dead disk = %v, %d", u, e)
	}
}

// TestP9FailsOnceAtEachCall lets each changing call of a script fail in turn; each changing call of the Open behind it, too. Without a crash all mutations are found, and behind one all that were held.
func TestP9FailsOnceAtEachCall(t *testing.T) {
	for _, o := range someOptions() {
		for at := 0; ; at++ {
			l := newLife()
			s, m := l.open(t, o)
			l.d.Fail(at)
			if l.play(t, s, m, o, script()) != api.ErrDisk {
				break
			}
			refused(t, s)
			is(t, "P8: Close", s.Close(), api.OK)
			for behind := range 4 {
				c := l.copy()
				c.d.Fail(behind)
				c.tryOpen(t, o)
				c.heal()
				c.goOn(t, o)
			}
			for _, keep := range someKeeps() {
				c := l.copy()
				c.crash(keep)
				c.goOn(t, o)
			}
		}
	}
}

// TestP9WhatMakesSure lets all be lost that is not sure, behind each of the calls that promise to hold it.
func TestP9WhatMakesSure(t *testing.T) {
	for what, call := range map[string]func(*testing.T, *disk.Disk, *burrow.Store) int{
		"Sync": func(t *testing.T, _ *disk.Disk, s *burrow.Store) int {
			is(t, "Sync", s.Sync(), api.OK)
			return s.Counter()
		},
		"Merge": func(t *testing.T, _ *disk.Disk, s *burrow.Store) int {
			is(t, "Merge", s.Merge(), api.OK)
			return s.Counter()
		},
		"Open": func(t *testing.T, d *disk.Disk, _ *burrow.Store) int { return open(t, d, plain).Counter() },
		"Open, Close, Open": func(t *testing.T, d *disk.Disk, s *burrow.Store) int {
			s.Close()
			open(t, d, plain).Close()
			return open(t, d, plain).Counter()
		},
	} {
		for n := range 40 {
			d := disk.New(100000)
			s := open(t, d, plain)
			fill(t, s, n)
			want := image(t, s)
			if found := call(t, d, s); found != n {
				t.Fatalf("P9: %s tells the counter %d, want %d", what, found, n)
			}
			d.Crash(alike(0, 0))
			if got := image(t, open(t, d, plain)); got != want {
				t.Fatalf("P9: behind %s and a crash there is %s, want %s", what, got, want)
			}
		}
	}
}

// TestP9EveryCountsFromTheLastTimeThatAllWasHeld lets the store make sure of all by Sync or Open behind some mutations, and then by itself.
func TestP9EveryCountsFromTheLastTimeThatAllWasHeld(t *testing.T) {
	for _, every := range []int{1, 2, 3, 7, 40, api.MaxEvery} {
		for first := range 7 {
			for _, opened := range []bool{false, true} {
				o := api.Options{Node: 1, Every: every, Roll: api.MinRoll}
				d := disk.New(1 << 20)
				s := open(t, d, o)
				fill(t, s, first)
				if is(t, "P9: Sync", s.Sync(), api.OK); opened {
					s = open(t, d, o)
				}
				fill(t, s, every-1)
				s.Delete("none", none)
				s.Put("k", "no mutation", "")
				fill(t, s, 1)
				d.Crash(alike(0, 0))
				counts(t, open(t, d, o), first+every)
			}
		}
	}
}

// TestP9DrawnCrashes draws calls, failures, crashes, and what may be done to hints: what is found is always what the store was behind some of its mutations, the held ones among them.
func TestP9DrawnCrashes(t *testing.T) {
	for seed := range 400 {
		r := rand.New(rand.NewSource(int64(seed)))
		l := &life{d: disk.New(1 << 30)}
		for range 12 {
			o := anyOptions(r, 1)
			l.drawOpen(t, r, o)
			s, m := l.open(t, o)
			l.drawCalls(t, r, s, m, o)
			if r.Intn(3) == 0 {
				s.Close()
				anyTampering(r, l.d)
			}
			if l.d.Dead() || r.Intn(2) == 0 {
				l.crash(anyKeep(r))
			}
		}
	}
}

// drawFailure lets the disk fail, or die, behind fewer than so many calls, or do neither.
func (l *life) drawFailure(r *rand.Rand, calls int) {
	switch r.Intn(3) {
	case 0:
		l.d.Fail(r.Intn(calls))
	case 1:
		l.d.Die(r.Intn(calls))
	}
}

// drawOpen opens a disk that may fail, and may crash behind it, some times.
func (l *life) drawOpen(t *testing.T, r *rand.Rand, o api.Options) {
	t.Helper()
	for range r.Intn(3) {
		l.drawFailure(r, 3)
		l.tryOpen(t, o)
		if l.d.Dead() || r.Intn(3) == 0 {
			l.crash(anyKeep(r))
		}
	}
	l.heal()
}

// drawCalls draws calls of the store until one fails or the time is over.
func (l *life) drawCalls(t *testing.T, r *rand.Rand, s *burrow.Store, m *model, o api.Options) {
	t.Helper()
	l.drawFailure(r, 60)
	for range r.Intn(80) {
		a := act{name: []string{"Sync", "Merge", "", "", "", "", "", "", "", "", "", ""}[r.Intn(12)]}
		if a.name == "" {
			a.mutation = anyMutation(r, s)
		}
		if l.play(t, s, m, o, []act{a}) == api.ErrDisk {
			refused(t, s)
			return
		}
	}
}

func anyMutation(r *rand.Rand, s *burrow.Store) mutation {
	key := anyKey(r)
	return mutation{gone: r.Intn(3) == 0, key: key, value: anyValue(r), context: anyContext(r, s, key, []string{none})}
}
