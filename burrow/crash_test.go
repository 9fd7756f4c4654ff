package burrow_test

import (
	"math/rand"
	"testing"

	"burrow/api"
	"burrow/burrow"
	"burrow/disk"
)

// mutation is a call of Put, or of Delete, that the model took for a mutation.
type mutation struct {
	gone                bool
	key, value, context string
}

func (m mutation) do(s interface {
	Put(key, value, context string) api.Errno
	Delete(key, context string) api.Errno
}) api.Errno {
	if m.gone {
		return s.Delete(m.key, m.context)
	}
	return s.Put(m.key, m.value, m.context)
}

// Put and Delete let the model take what a store takes.
func (m *model) Put(key, value, context string) api.Errno { return m.put(key, value, context) }
func (m *model) Delete(key, context string) api.Errno     { return m.delete(key, context) }

// life is a disk, what was done to the stores on it, and how many of the mutations were held.
type life struct {
	r    *rand.Rand
	d    *disk.Disk
	done []mutation // the last one, perhaps, only begun
	sure int        // so many of them are found, if there is no crash
	held int
}

// TestCrashesKeepAFirstPart draws calls, failures and crashes: what is found is always what the store was behind some of its mutations, the held ones among them.
func TestCrashesKeepAFirstPart(t *testing.T) {
	for seed := range 400 {
		l := &life{r: rand.New(rand.NewSource(int64(seed))), d: disk.New(1 << 30)}
		for range 12 {
			o := anyOptions(l.r, 1)
			l.tryOpen(o)
			s, m := l.open(t, o)
			l.calls(t, s, m, o)
			if l.d.Dead() || l.r.Intn(2) == 0 {
				l.crash()
			}
		}
	}
}

// tryOpen opens the disk while it fails, and perhaps crashes.
func (l *life) tryOpen(o api.Options) {
	for range l.r.Intn(3) {
		if l.r.Intn(2) == 0 {
			l.d.Fail(l.r.Intn(3))
		} else {
			l.d.Die(l.r.Intn(3))
		}
		if s, e := burrow.Open(l.d, o); e == api.OK {
			l.found(s.Counter())
		}
		if l.d.Dead() || l.r.Intn(3) == 0 {
			l.crash()
		}
	}
	l.d.Fail(1 << 30)
	l.d.Die(1 << 30)
}

// found tells that so many mutations are on the disk, and that Open has made sure of them.
func (l *life) found(n int) { l.done, l.sure, l.held = l.done[:n], n, n }

func (l *life) crash() {
	var keep []int
	for range l.r.Intn(12) {
		keep = append(keep, l.r.Intn(1000)-500)
	}
	l.d.Crash(keep)
	l.sure = l.held
}

// open opens the disk when it does what it should, and holds what is found against what was done; it answers the store and a model of it.
func (l *life) open(t *testing.T, o api.Options) (*burrow.Store, *model) {
	t.Helper()
	s := open(t, l.d, o)
	n := s.Counter()
	if n < l.sure || n > len(l.done) {
		t.Fatalf("P9: %d mutations are found, of %d, of which %d must be found", n, len(l.done), l.sure)
	}
	l.found(n)
	m := newModel(o.Node)
	for _, x := range l.done {
		is(t, "the model, again", x.do(m), api.OK)
	}
	if got, want := image(t, s), m.image(); got != want {
		t.Fatalf("P9: behind %d mutations there is %s, want %s", n, got, want)
	}
	return s, m
}

// calls draws calls until one fails or the time is over.
func (l *life) calls(t *testing.T, s *burrow.Store, m *model, o api.Options) {
	t.Helper()
	switch l.r.Intn(3) {
	case 0:
		l.d.Fail(l.r.Intn(60))
	case 1:
		l.d.Die(l.r.Intn(60))
	}
	for range l.r.Intn(80) {
		var e api.Errno
		if l.r.Intn(12) == 0 {
			e = l.sync(s)
		} else {
			e = l.mutate(t, s, m, o)
		}
		if e == api.ErrDisk {
			return
		}
	}
}

func (l *life) sync(s *burrow.Store) api.Errno {
	e := s.Sync()
	if e == api.OK {
		l.held = l.sure
	}
	return e
}

// mutate draws a Put or a Delete.
func (l *life) mutate(t *testing.T, s *burrow.Store, m *model, o api.Options) api.Errno {
	t.Helper()
	key := anyKey(l.r)
	x := mutation{gone: l.r.Intn(3) == 0, key: key, value: anyValue(l.r), context: anyContext(l.r, s, key, []string{none})}
	before := m.counter
	want, e := x.do(m), x.do(s)
	if m.counter > before {
		l.done = append(l.done, x)
	}
	if e == api.ErrDisk && want == api.OK {
		return e
	}
	if e != want || s.Counter() != m.counter {
		t.Fatalf("P7: a drawn call = %d, want %d; the counter is %d, want %d", e, want, s.Counter(), m.counter)
	}
	l.sure = m.counter
	if o.Every > 0 && l.sure-l.held == o.Every {
		l.held = l.sure
	}
	return e
}
