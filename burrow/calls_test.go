package burrow_test

import (
	"strconv"
	"testing"

	"burrow/api"
	"burrow/disk"
)

// TestP7Example is the document's example, as far as the disk fails in nothing.
func TestP7Example(t *testing.T) {
	d := disk.New(10000)
	s := open(t, d, plain)
	get(t, s, "k", "")
	is(t, "P7: Put a", s.Put("k", "a", none), api.OK)
	is(t, "P7: Put b", s.Put("k", "b", none), api.OK)
	get(t, s, "k", ctx(1, 2), "a", "b")
	is(t, "P7: Put c", s.Put("k", "c", ctx(1, 1)), api.OK)
	get(t, s, "k", ctx(1, 3), "b", "c")
	is(t, "P7: Put d", s.Put("k", "d", ctx(1, 4)), api.ErrContext)
	counts(t, s, 3)
	is(t, "P7: Put by no key", s.Put("", "x", none), api.ErrArg)
	is(t, "P7: Put without a context", s.Put("k", "x", ""), api.ErrContext)
	is(t, "P7: Delete of what is gone", s.Delete("k", ctx(1, 1)), api.OK)
	counts(t, s, 3)
	is(t, "P9: Sync", s.Sync(), api.OK)
	is(t, "P7: Put y", s.Put("z", "y", none), api.OK)
	counts(t, s, 4)
	d.Crash([]int{0, 0, 0, 0})
	s = open(t, d, plain)
	counts(t, s, 3)
	get(t, s, "z", "")
	get(t, s, "k", ctx(1, 3), "b", "c")
	is(t, "P7: Delete", s.Delete("k", ctx(1, 3)), api.OK)
	counts(t, s, 4)
	get(t, s, "k", "")
	is(t, "P7: Put e", s.Put("k", "e", none), api.OK)
	get(t, s, "k", ctx(1, 5), "e")
	d.Fail(0)
	is(t, "P8: Put of a disk that fails", s.Put("k", "f", none), api.ErrDisk)
	get(t, s, "k", ctx(1, 5), "e")
	is(t, "P8: Put", s.Put("k", "f", none), api.ErrReadOnly)
	is(t, "P8: Sync", s.Sync(), api.ErrReadOnly)
	is(t, "P8: Merge", s.Merge(), api.ErrReadOnly)
	is(t, "P8: Close", s.Close(), api.OK)
	if l, c, e := s.Get("k"); l != nil || c != "" || e != api.ErrClosed {
		t.Errorf("P7: Get of a closed store = %q, %q, %d", l, c, e)
	}
	s = open(t, d, plain)
	if n := s.Counter(); n != 5 && n != 6 {
		t.Errorf("P9: the counter is %d", n)
	}
}

func TestP7WrongArguments(t *testing.T) {
	s := open(t, disk.New(100000), plain)
	is(t, "P7: Put", s.Put("k", "v", none), api.OK)
	for _, key := range []string{"", longKey + "k", string(make([]byte, 5000))} {
		is(t, "P7: Put by a wrong key", s.Put(key, "x", none), api.ErrArg)
		is(t, "P7: Put by a wrong key, with a wrong context", s.Put(key, "x", ""), api.ErrArg)
		is(t, "P7: Delete by a wrong key", s.Delete(key, none), api.ErrArg)
		is(t, "P7: Delete by a wrong key, with a wrong context", s.Delete(key, ""), api.ErrArg)
		if l, c, e := s.Get(key); l != nil || c != "" || e != api.ErrArg {
			t.Errorf("P7: Get(%.50q) = %q, %q, %d", key, l, c, e)
		}
	}
	is(t, "P7: Put of a value too long", s.Put("k", longest+"v", none), api.ErrArg)
	is(t, "P7: Put of a value too long, with a wrong context", s.Put("k", longest+"v", "x"), api.ErrArg)
	for _, c := range []string{"", "x", "\x01", none + none, ctx(1, 1)[:9], ctx(1, 1) + none, ctx(16, 1), ctx(2, 0), ctx(2, -1), ctx(2, api.MaxCount+1), ctx(2, 1, 0, 1), ctx(2, 1, 2, 1), nodes(0, 2, 3, 4, 5, 6, 7, 8, 9), ctx(1, 2), ctx(0, 1, 1, 2), ctx(1, api.MaxCount)} {
		is(t, "P7: Put with the context "+strconv.Quote(c), s.Put("k", "x", c), api.ErrContext)
		is(t, "P7: Put of another key with the context "+strconv.Quote(c), s.Put("j", "x", c), api.ErrContext)
		is(t, "P7: Delete with the context "+strconv.Quote(c), s.Delete("k", c), api.ErrContext)
		is(t, "P7: Delete of no key with the context "+strconv.Quote(c), s.Delete("j", c), api.ErrContext)
	}
	counts(t, s, 1)
	hasKeys(t, s, "k")
	get(t, s, "k", ctx(1, 1), "v")
}

func TestP7KeysAndValuesOfAllLengths(t *testing.T) {
	d := disk.New(1 << 20)
	s := open(t, d, plain)
	for _, key := range []string{"\x00", "k", "\xff\xfe", "ä", longKey, longKey[1:]} {
		for _, value := range []string{"", "v", "\x00", "\xff", longest} {
			before := s.Counter()
			is(t, "P7: Put", s.Put(key, value, none), api.OK)
			get(t, s, key, ctx(1, before+1), value)
			is(t, "P7: Put", s.Put(key, value, ctx(1, before+1)), api.OK)
			get(t, s, key, ctx(1, before+2), value)
			s = open(t, d, plain)
			get(t, s, key, ctx(1, before+2), value)
			is(t, "P7: Delete", s.Delete(key, ctx(1, before+2)), api.OK)
			get(t, s, key, "")
			counts(t, s, before+3)
		}
	}
}

func TestP7PutBesideAndOver(t *testing.T) {
	s := open(t, disk.New(100000), plain)
	for i := range api.MaxSiblings {
		is(t, "P7: Put beside", s.Put("k", strconv.Itoa(i), none), api.OK)
	}
	is(t, "P7: Put of a seventh", s.Put("k", "x", none), api.ErrMany)
	is(t, "P7: Put of a seventh, with another's clock", s.Put("k", "x", ctx(2, 99)), api.ErrMany)
	counts(t, s, 6)
	get(t, s, "k", ctx(1, 6), "0", "1", "2", "3", "4", "5")
	is(t, "P7: Put over two", s.Put("k", "6", ctx(1, 2, 9, 9)), api.OK)
	get(t, s, "k", ctx(1, 7, 9, 9), "2", "3", "4", "5", "6")
	is(t, "P7: Put over all", s.Put("k", "7", ctx(1, 7)), api.OK)
	get(t, s, "k", ctx(1, 8, 9, 9), "7")
	is(t, "P7: Put of another key, with all that was", s.Put("j", "8", ctx(1, 8)), api.OK)
	get(t, s, "j", ctx(1, 9), "8")
	get(t, s, "k", ctx(1, 8, 9, 9), "7")
}

func TestP7TooManyNodes(t *testing.T) {
	s := open(t, disk.New(100000), plain)
	is(t, "P7: Put of a ninth node", s.Put("k", "v", nodes(2, 3, 4, 5, 6, 7, 8, 9)), api.ErrMany)
	counts(t, s, 0)
	is(t, "P7: Put of an eighth node", s.Put("k", "v", nodes(2, 3, 4, 5, 6, 7, 8)), api.OK)
	get(t, s, "k", nodes(1, 2, 3, 4, 5, 6, 7, 8), "v")
	is(t, "P7: Put of a ninth node later", s.Put("k", "w", nodes(9)), api.ErrMany)
	is(t, "P7: Delete of a ninth node", s.Delete("k", nodes(1, 9)), api.ErrMany)
	is(t, "P7: Delete of a ninth node that takes nothing away", s.Delete("k", nodes(9)), api.OK)
	counts(t, s, 1)
	is(t, "P7: Delete", s.Delete("k", nodes(1, 8)), api.OK)
	get(t, s, "k", "")
	counts(t, s, 2)
}

func TestP7Delete(t *testing.T) {
	d := disk.New(100000)
	s := open(t, d, plain)
	is(t, "P7: Delete of no key", s.Delete("k", none), api.OK)
	is(t, "P7: Delete of no key, with another's clock", s.Delete("k", ctx(2, 77)), api.OK)
	counts(t, s, 0)
	if len(d.List()) != 0 {
		t.Errorf("P7: a Delete of nothing writes %q", d.List())
	}
	for _, v := range []string{"a", "b", "c"} {
		is(t, "P7: Put", s.Put("k", v, none), api.OK)
	}
	is(t, "P7: Delete that has seen nothing", s.Delete("k", none), api.OK)
	is(t, "P7: Delete that has seen another's", s.Delete("k", ctx(2, 77)), api.OK)
	counts(t, s, 3)
	get(t, s, "k", ctx(1, 3), "a", "b", "c")
	is(t, "P7: Delete of two", s.Delete("k", ctx(1, 2, 7, 9)), api.OK)
	counts(t, s, 4)
	get(t, s, "k", ctx(1, 3, 7, 9), "c")
	is(t, "P7: Delete of the last", s.Delete("k", ctx(1, 4)), api.OK)
	counts(t, s, 5)
	hasKeys(t, s)
	is(t, "P7: Put behind it", s.Put("k", "d", none), api.OK)
	get(t, s, "k", ctx(1, 6), "d")
	s = open(t, d, plain)
	get(t, s, "k", ctx(1, 6), "d")
	counts(t, s, 6)
}

func TestP7Keys(t *testing.T) {
	s := open(t, disk.New(100000), plain)
	for _, key := range []string{"b", "a", "aa", "\xff", "B", "\x00", "ä", "b"} {
		is(t, "P7: Put", s.Put(key, "v", none), api.OK)
	}
	hasKeys(t, s, "\x00", "B", "a", "aa", "b", "ä", "\xff")
	is(t, "P7: Delete", s.Delete("aa", ctx(1, 3)), api.OK)
	is(t, "P7: Delete of one of two", s.Delete("b", ctx(1, 1)), api.OK)
	hasKeys(t, s, "\x00", "B", "a", "b", "ä", "\xff")
}

func TestP7AClosedStore(t *testing.T) {
	d := disk.New(100000)
	s := open(t, d, plain)
	fill(t, s, 3)
	want := image(t, s)
	is(t, "P8: Close", s.Close(), api.OK)
	for range 2 {
		for _, key := range []string{"n0", "none", "", longKey + "k"} {
			if l, c, e := s.Get(key); l != nil || c != "" || e != api.ErrClosed {
				t.Errorf("P7: Get of a closed store = %q, %q, %d", l, c, e)
			}
			is(t, "P7: Put", s.Put(key, longest+"v", ""), api.ErrClosed)
			is(t, "P7: Delete", s.Delete(key, ""), api.ErrClosed)
		}
		is(t, "P9: Sync", s.Sync(), api.ErrClosed)
		is(t, "P10: Merge", s.Merge(), api.ErrClosed)
		is(t, "P8: Close", s.Close(), api.ErrClosed)
		counts(t, s, 0)
		hasKeys(t, s)
		d.Die(0)
	}
	d.Crash(nil)
	if got := image(t, open(t, d, plain)); got != want {
		t.Errorf("P8: behind Close and a crash that keeps all there is %s, want %s", got, want)
	}
}
