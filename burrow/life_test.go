package burrow_test

import (
	"math/rand"
	"slices"
	"testing"

	"burrow/api"
	"burrow/burrow"
	"burrow/disk"
)

// mutation is a call of Put, or of Delete.
type mutation struct {
	gone                bool
	key, value, context string
}

func (m mutation) do(s interface {
	Put(key, value, context string) api.Errno
	Delete(key, context string) api.Errno
}) api.Errno {
	if m.gone {
		return s.Delete(m.key, m.context)
	}
	return s.Put(m.key, m.value, m.context)
}

// Put and Delete let the model take what a store takes.
func (m *model) Put(key, value, context string) api.Errno { return m.put(key, value, context) }
func (m *model) Delete(key, context string) api.Errno     { return m.delete(key, context) }

// life is a disk, what was done to the stores on it, and how many of the mutations were held.
type life struct {
	d    *disk.Disk
	done []mutation // the last one, perhaps, only begun
	sure int        // so many of them are found, if there is no crash
	held int
}

// copy is another life that was the same so far.
func (l *life) copy() *life {
	return &life{d: l.d.Copy(), done: slices.Clone(l.done), sure: l.sure, held: l.held}
}

// found tells that so many mutations are on the disk, and that Open has made sure of them.
func (l *life) found(n int) { l.done, l.sure, l.held = l.done[:n], n, n }

func (l *life) crash(keep []int) {
	l.d.Crash(keep)
	l.sure = l.held
}

// heal lets the disk do what it should, unless it is dead.
func (l *life) heal() {
	l.d.Fail(1 << 30)
	if !l.d.Dead() {
		l.d.Die(1 << 30)
	}
}

// open opens the disk when it does what it should, and holds what is found against what was done; it answers the store and a model of it.
func (l *life) open(t *testing.T, o api.Options) (*burrow.Store, *model) {
	t.Helper()
	s := open(t, l.d, o)
	n := s.Counter()
	if n < l.sure || n > len(l.done) {
		t.Fatalf("P9: %d mutations are found, of %d, of which %d must be found", n, len(l.done), l.sure)
	}
	l.found(n)
	m := l.model(t, o, n)
	if got, want := image(t, s), m.image(); got != want {
		t.Fatalf("P9: behind %d mutations there is %s, want %s", n, got, want)
	}
	return s, m
}

// model is a model behind so many of the mutations.
func (l *life) model(t *testing.T, o api.Options, n int) *model {
	t.Helper()
	m := newModel(o.Node)
	for _, x := range l.done[:n] {
		is(t, "the model, again", x.do(m), api.OK)
	}
	return m
}

// tryOpen opens the disk while it fails, or dies.
func (l *life) tryOpen(t *testing.T, o api.Options) {
	t.Helper()
	failed := l.d.Failed()
	s, e := burrow.Open(l.d, o)
	if fails := l.d.Failed() > failed; fails != (e == api.ErrDisk) || fails != (s == nil) || !fails && e != api.OK {
		t.Fatalf("P6: Open with %d failed calls = %v, %d", l.d.Failed()-failed, s, e)
	}
	if s == nil {
		return
	}
	if n := s.Counter(); n < l.sure || n > len(l.done) {
		t.Fatalf("P9: %d mutations are found, of %d, of which %d must be found", n, len(l.done), l.sure)
	}
	l.found(s.Counter())
}

// do makes a call of Put or Delete, and holds the answer, and what the store tells behind it, against the model. Behind a call that failed the model is of no use any more: it has taken what the store has not.
func (l *life) do(t *testing.T, s *burrow.Store, m *model, o api.Options, x mutation) api.Errno {
	t.Helper()
	failed, before, keys := l.d.Failed(), m.counter, s.Keys()
	want, e := x.do(m), x.do(s)
	if m.counter > before {
		l.done = append(l.done, x)
	}
	if l.d.Failed() > failed {
		is(t, "P8: what is asked of a disk that fails", e, api.ErrDisk)
		counts(t, s, before)
		hasKeys(t, s, keys...)
		if was := l.model(t, o, before).image(); !l.d.Dead() && image(t, s) != was {
			t.Fatalf("P8: behind a call that failed the store tells %s, want %s", image(t, s), was)
		}
		return api.ErrDisk
	}
	if e != want || s.Counter() != m.counter {
		t.Fatalf("P7: a call = %d, want %d; the counter is %d, want %d", e, want, s.Counter(), m.counter)
	}
	l.sure = m.counter
	if o.Every > 0 && l.sure-l.held == o.Every {
		l.held = l.sure
	}
	return e
}

// makeSure makes a call of Sync or Merge, behind which all is held.
func (l *life) makeSure(t *testing.T, s *burrow.Store, call func() api.Errno) api.Errno {
	t.Helper()
	failed, n := l.d.Failed(), s.Counter()
	e := call()
	if fails := l.d.Failed() > failed; fails != (e == api.ErrDisk) || !fails && e != api.OK {
		t.Fatalf("P8: Sync or Merge with %d failed calls = %d", l.d.Failed()-failed, e)
	}
	counts(t, s, n)
	if e == api.OK {
		l.held = l.sure
	}
	return e
}

// anyKeep is what a crash may keep.
func anyKeep(r *rand.Rand) []int {
	var keep []int
	for range r.Intn(12) {
		keep = append(keep, r.Intn(1000)-500)
	}
	return keep
}
