package burrow_test

import (
	"math/rand"
	"slices"
	"strconv"
	"testing"
	"unsafe"

	"burrow/api"
	"burrow/burrow"
	"burrow/disk"
)

func anyKey(r *rand.Rand) string {
	if r.Intn(30) == 0 {
		return []string{"", longKey + "k", longKey, "\x00"}[r.Intn(4)]
	}
	return "k" + strconv.Itoa(r.Intn(6))
}

func anyValue(r *rand.Rand) string {
	if r.Intn(60) == 0 {
		return longest + "v"
	}
	return longest[:r.Intn(len(longest)+1)]
}

// anyContext is what a caller may come with: what Get tells now or told earlier, a clock of its own, or nothing that is a clock.
func anyContext(r *rand.Rand, s *burrow.Store, key string, seen []string) string {
	switch r.Intn(8) {
	case 0:
		return none
	case 1, 2, 3:
		if _, c, e := s.Get(key); e == api.OK {
			return c
		}
		return none
	case 4, 5:
		return seen[r.Intn(len(seen))]
	case 6:
		var l []int
		for node := range api.MaxNode + 2 {
			if r.Intn(6) == 0 {
				l = append(l, node, r.Intn(s.Counter()+3))
			}
		}
		return ctx(l...)
	}
	b := []byte(ctx(1, 1+r.Intn(9), 2, 1))
	b[r.Intn(len(b))] = byte(r.Intn(4))
	return string(b[:r.Intn(len(b)+1)])
}

// step makes one drawn call to a store and to the model, and holds the answers against each other.
func step(t *testing.T, r *rand.Rand, s *burrow.Store, m *model, seen []string) []string {
	t.Helper()
	key, value := anyKey(r), anyValue(r)
	context := anyContext(r, s, key, seen)
	switch r.Intn(5) {
	case 0, 1:
		e, want := s.Put(key, value, context), m.put(key, value, context)
		if e != want {
			t.Fatalf("P7: Put(%.50q, %d bytes, %q) = %d, want %d", key, len(value), context, e, want)
		}
	case 2:
		e, want := s.Delete(key, context), m.delete(key, context)
		if e != want {
			t.Fatalf("P7: Delete(%.50q, %q) = %d, want %d", key, context, e, want)
		}
	case 3:
		is(t, "P9: Sync", s.Sync(), api.OK)
	case 4:
		if _, c, e := s.Get(key); e == api.OK {
			seen = append(seen, c)
		}
	}
	if s.Counter() != m.counter {
		t.Fatalf("P7: Counter() = %d, want %d", s.Counter(), m.counter)
	}
	return seen
}

func anyOptions(r *rand.Rand, node int) api.Options {
	return api.Options{Node: node, Every: r.Intn(4), Roll: api.MinRoll + r.Intn(800)}
}

func TestP7DrawnCalls(t *testing.T) {
	for seed := range 30 {
		r := rand.New(rand.NewSource(int64(seed)))
		node := r.Intn(api.MaxNode + 1)
		d, m := disk.New(1<<30), newModel(node)
		s := open(t, d, anyOptions(r, node))
		seen := []string{none}
		for range 1500 {
			seen = step(t, r, s, m, seen)
			if r.Intn(20) == 0 {
				if got, want := image(t, s), m.image(); got != want {
					t.Fatalf("P7: the store tells %s, want %s", got, want)
				}
			}
			if r.Intn(60) == 0 {
				s = open(t, d, anyOptions(r, node))
			}
		}
		if m.counter < 300 {
			t.Errorf("of 1500 drawn calls %d were mutations", m.counter)
		}
	}
}

func TestP1AnyArgumentsAtAll(t *testing.T) {
	r := rand.New(rand.NewSource(1))
	anyText := func() string {
		b := make([]byte, r.Intn(50))
		for i := range b {
			b[i] = byte(r.Intn(256) & r.Intn(256) & r.Intn(256))
		}
		return string(b)
	}
	d := disk.New(1 << 20)
	s := open(t, d, plain)
	for range 20000 {
		s.Put(anyText(), anyText(), anyText())
		s.Delete(anyText(), anyText())
		if l, c, e := s.Get(anyText()); e != api.OK && (l != nil || c != "") {
			t.Fatalf("P1: beside %d stand %q, %q", e, l, c)
		}
	}
}

// TestP1AnyBytesOnTheDisk: what is found on a disk that was tampered with is promised by nothing, but that Open ends, and gives a store that goes on.
func TestP1AnyBytesOnTheDisk(t *testing.T) {
	r := rand.New(rand.NewSource(1))
	for range 1500 {
		d := disk.New(1 << 20)
		s := open(t, d, plain)
		fill(t, s, 1+r.Intn(30))
		if r.Intn(2) == 0 {
			d.Fail(10 + r.Intn(30))
			s.Merge()
			d.Fail(1 << 30)
			s = open(t, d, plain)
			fill(t, s, 1+r.Intn(9))
		}
		for range 1 + r.Intn(8) {
			l := d.List()
			name := l[r.Intn(len(l))]
			switch size, _ := d.Size(name); r.Intn(5) {
			case 0:
				d.Cut(name, r.Intn(size+1))
			case 1:
				d.Remove(l[0])
				d.Create(l[0])
			default:
				d.Spoil(name, r.Intn(size+1), r.Intn(256))
			}
		}
		s = open(t, d, api.Options{Node: r.Intn(3), Every: 2, Roll: api.MinRoll})
		image(t, s)
		for _, key := range s.Keys() {
			_, context, _ := s.Get(key)
			if e := s.Put(key, "value", context); e != api.OK && e != api.ErrContext && e != api.ErrMany {
				t.Fatalf("behind tampering, Put(%q) with %q, which Get tells, = %d", key, context, e)
			}
		}
		n := s.Counter()
		is(t, "P7: Put", s.Put("new", "value", none), api.OK)
		want := image(t, s)
		s = open(t, d, plain)
		if got := image(t, s); got != want {
			t.Fatalf("behind tampering and a Put, Open finds %s, want %s", got, want)
		}
		counts(t, s, n+1)
	}
}

func TestP2ListsAreNewMemory(t *testing.T) {
	s := open(t, disk.New(100000), plain)
	for _, v := range []string{"a", "b", "c"} {
		s.Put("k", v, none)
		s.Put(v, v, none)
	}
	want := image(t, s)
	for range 2 {
		l, _, _ := s.Get("k")
		keys := s.Keys()
		for _, out := range [][]string{l, keys} {
			out = out[:cap(out)]
			for i := range out {
				out[i] = "over"
			}
		}
		if got := image(t, s); got != want {
			t.Fatalf("P2: who writes into an answer changes the store to %s, want %s", got, want)
		}
	}
	l, _, _ := s.Get("k")
	s.Put("k", "d", ctx(1, s.Counter()))
	if !slices.Equal(l, []string{"a", "b", "c"}) {
		t.Errorf("P2: a later Put changes an earlier answer to %q", l)
	}
}

// TestP2TextsAreNotKept hands in texts that stand in memory which is written over afterwards.
func TestP2TextsAreNotKept(t *testing.T) {
	d := disk.New(100000)
	s := open(t, d, plain)
	text := func(of string) ([]byte, string) {
		b := []byte(of)
		return b, unsafe.String(&b[0], len(b))
	}
	key, keyText := text("key")
	value, valueText := text("value")
	context, contextText := text(ctx(2, 7))
	is(t, "P7: Put", s.Put(keyText, valueText, contextText), api.OK)
	is(t, "P7: Delete", s.Delete(keyText, contextText), api.OK)
	clear(key)
	clear(value)
	clear(context)
	hasKeys(t, s, "key")
	get(t, s, "key", ctx(1, 1, 2, 7), "value")
	get(t, open(t, d, plain), "key", ctx(1, 1, 2, 7), "value")
}

func TestP2StoresApart(t *testing.T) {
	d1, d2 := disk.New(100000), disk.New(100000)
	a, b := open(t, d1, plain), open(t, d2, api.Options{Node: 2, Roll: 500})
	fill(t, a, 3)
	fill(t, b, 5)
	a.Put("k", "a", none)
	b.Put("k", "b", none)
	get(t, a, "k", ctx(1, 4), "a")
	get(t, b, "k", ctx(2, 6), "b")
	is(t, "P8: Close", a.Close(), api.OK)
	get(t, b, "k", ctx(2, 6), "b")
}
