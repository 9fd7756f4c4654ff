package burrow_test

import (
	"strconv"
	"testing"

	"burrow/api"
	"burrow/burrow"
	"burrow/disk"
)

// changers are the calls that may change something, each of which has something to do behind fill.
func changers() map[string]func(*burrow.Store) api.Errno {
	return map[string]func(*burrow.Store) api.Errno{
		"Put":               func(s *burrow.Store) api.Errno { return s.Put("k", "new", none) },
		"Put over a value":  func(s *burrow.Store) api.Errno { return s.Put("n0", "new", ctx(1, 1)) },
		"Put of much":       func(s *burrow.Store) api.Errno { return s.Put(longKey, longest, ctx(1, 1)) },
		"Delete":            func(s *burrow.Store) api.Errno { return s.Delete("n1", ctx(1, 2)) },
		"Delete of nothing": func(s *burrow.Store) api.Errno { return s.Delete("n1", none) },
		"Sync":              func(s *burrow.Store) api.Errno { return s.Sync() },
	}
}

// TestP8ReadOnly lets each call fail in each of its steps, ahead of, at, and behind the beginning of a new file.
func TestP8ReadOnly(t *testing.T) {
	for what, call := range changers() {
		for filled := 2; filled < 24; filled++ {
			for every := range 3 {
				for behind := range 6 {
					d := disk.New(100000)
					s := open(t, d, api.Options{Node: 1, Every: every, Roll: api.MinRoll})
					fill(t, s, filled)
					d.Fail(behind)
					readOnly(t, what, call, d, s)
				}
			}
		}
	}
}

// readOnly makes a call that may fail, and holds the store against what P8 says of it.
func readOnly(t *testing.T, what string, call func(*burrow.Store) api.Errno, d *disk.Disk, s *burrow.Store) {
	t.Helper()
	before, n, failed := image(t, s), s.Counter(), d.Failed()
	e := call(s)
	if (e == api.ErrDisk) != (d.Failed() > failed) || e != api.OK && e != api.ErrDisk {
		t.Fatalf("P8: %s with %d failed calls = %d", what, d.Failed()-failed, e)
	}
	if e == api.OK {
		return
	}
	d.Fail(1000)
	if got := image(t, s); got != before {
		t.Fatalf("P8: behind a %s that failed the store tells %s, want %s", what, got, before)
	}
	refused(t, s)
	if got := image(t, s); got != before {
		t.Fatalf("P8: a store that is read-only tells %s, want %s", got, before)
	}
	is(t, "P8: Close", s.Close(), api.OK)
	s = open(t, d, plain)
	if got := s.Counter(); got != n && (got != n+1 || what == "Sync") {
		t.Fatalf("P9: behind %s that failed the counter is %d, and was %d", what, got, n)
	}
	fill(t, s, 1)
}

// refused holds a store that is read-only against P8's answers, and their order.
func refused(t *testing.T, s *burrow.Store) {
	t.Helper()
	all := none
	if n := s.Counter(); n > 0 {
		all = ctx(1, n)
	}
	for range 2 {
		is(t, "P8: Put", s.Put("k", "x", none), api.ErrReadOnly)
		is(t, "P8: Put by a wrong key", s.Put("", "x", none), api.ErrArg)
		is(t, "P8: Put with a wrong context", s.Put("k", "x", ctx(1, s.Counter()+1)), api.ErrContext)
		is(t, "P8: Put of too many nodes", s.Put("k", "x", nodes(2, 3, 4, 5, 6, 7, 8, 9)), api.ErrReadOnly)
		for _, key := range append(s.Keys(), "none") {
			is(t, "P8: Delete", s.Delete(key, all), api.ErrReadOnly)
			is(t, "P8: Delete of nothing", s.Delete(key, none), api.ErrReadOnly)
		}
		is(t, "P8: Delete by a wrong key", s.Delete("", none), api.ErrArg)
		is(t, "P8: Delete with a wrong context", s.Delete("k", ""), api.ErrContext)
		is(t, "P8: Sync", s.Sync(), api.ErrReadOnly)
		is(t, "P8: Merge", s.Merge(), api.ErrReadOnly)
	}
}

func TestP8ADeadDisk(t *testing.T) {
	d := disk.New(100000)
	s := open(t, d, plain)
	fill(t, s, 3)
	for range api.MaxSiblings {
		is(t, "P7: Put", s.Put("six", "v", none), api.OK)
	}
	is(t, "P9: Sync", s.Sync(), api.OK)
	want := image(t, s)
	keys := s.Keys()
	d.Die(0)
	for _, key := range []string{"n0", "none"} {
		if l, c, e := s.Get(key); l != nil || c != "" || e != api.ErrDisk {
			t.Errorf("P7: Get(%q) of a dead disk = %q, %q, %d", key, l, c, e)
		}
	}
	if _, _, e := s.Get(""); e != api.ErrArg {
		t.Errorf("P7: Get by no key, of a dead disk = %d", e)
	}
	is(t, "P7: Put of a seventh", s.Put("six", "v", none), api.ErrMany)
	is(t, "P7: Delete of too many nodes", s.Delete("n0", nodes(1, 2, 3, 4, 5, 6, 7, 8)), api.ErrDisk)
	d.Crash(nil)
	s = open(t, d, plain)
	d.Die(0)
	is(t, "P7: Delete of nothing", s.Delete("n0", none), api.OK)
	is(t, "P8: Put", s.Put("k", "v", none), api.ErrDisk)
	is(t, "P8: Put", s.Put("k", "v", none), api.ErrReadOnly)
	counts(t, s, 9)
	hasKeys(t, s, keys...)
	is(t, "P8: Close", s.Close(), api.OK)
	d.Crash(nil)
	if got := image(t, open(t, d, plain)); got != want {
		t.Errorf("P9: when the disk lives again there is %s, want %s", got, want)
	}
}

func TestP8AGetOfADeadDiskMakesNothingReadOnly(t *testing.T) {
	d := disk.New(100000)
	s := open(t, d, plain)
	fill(t, s, 1)
	is(t, "P9: Sync", s.Sync(), api.OK)
	d.Die(0)
	if _, _, e := s.Get("n0"); e != api.ErrDisk {
		t.Errorf("P7: Get of a dead disk = %d", e)
	}
	is(t, "P8: Sync behind it", s.Sync(), api.ErrDisk)
	is(t, "P8: Sync behind that", s.Sync(), api.ErrReadOnly)
}

func TestP8AFullDisk(t *testing.T) {
	for _, every := range []int{0, 1, 7} {
		for room := 5000; room < 5400; room += 13 {
			d := disk.New(room)
			s := open(t, d, api.Options{Node: 1, Every: every, Roll: api.MinRoll})
			n := 0
			for d.Left() >= api.Spare {
				is(t, "P8: Put while there is room", s.Put("k"+strconv.Itoa(n), longest, none), api.OK)
				n++
			}
			full(t, d, s)
			counts(t, s, n)
			if n < 4 {
				t.Errorf("P8: with %d bytes more than what must be left, %d values are taken", room-api.Spare, n)
			}
			want := image(t, s)
			if got := image(t, open(t, d, plain)); got != want {
				t.Errorf("P6: of a full disk Open finds %s, want %s", got, want)
			}
		}
	}
}

// full holds a store on a disk without room against P8.
func full(t *testing.T, d *disk.Disk, s *burrow.Store) {
	t.Helper()
	want, bytes := image(t, s), d.Bytes()
	for range 3 {
		is(t, "P8: Put without room", s.Put("j", "", none), api.ErrFull)
		is(t, "P8: Delete without room", s.Delete("k0", ctx(1, 1)), api.ErrFull)
		is(t, "P8: Put without room, by a wrong key", s.Put("", "", none), api.ErrArg)
		is(t, "P8: Put without room, with a wrong context", s.Put("j", "", ""), api.ErrContext)
		is(t, "P8: Put without room, of too many nodes", s.Put("j", "", nodes(2, 3, 4, 5, 6, 7, 8, 9)), api.ErrMany)
		is(t, "P8: Delete without room, of nothing", s.Delete("k0", none), api.OK)
		is(t, "P8: Sync without room", s.Sync(), api.OK)
	}
	if got := image(t, s); got != want || d.Bytes() != bytes {
		t.Errorf("P8: behind ErrFull the store tells %s, want %s; %d bytes, want %d", got, want, d.Bytes(), bytes)
	}
	d.Fail(0)
	is(t, "P8: Put without room, of a disk that fails", s.Put("j", "", none), api.ErrFull)
	d.Fail(1000)
	is(t, "P8: Sync behind it", s.Sync(), api.OK)
}

func TestP8TheLastByteOfTheSpare(t *testing.T) {
	is(t, "P8: Put with a byte too little", open(t, disk.New(api.Spare-1), plain).Put("k", "v", none), api.ErrFull)
	d := disk.New(api.Spare)
	s := open(t, d, plain)
	is(t, "P8: Put with just the room", s.Put(longKey, longest, nodes(2, 3, 4, 5, 6, 7, 8)), api.OK)
	is(t, "P8: Put with less", s.Put("k", "v", none), api.ErrFull)
	counts(t, open(t, d, plain), 1)
}

func TestP8RoomThatComesBack(t *testing.T) {
	d := disk.New(8000)
	s := open(t, d, plain)
	d.Create("stuffing")
	d.Append("stuffing", string(make([]byte, 4001)))
	is(t, "P8: Put without room", s.Put("k", "v", none), api.ErrFull)
	d.Remove("stuffing")
	is(t, "P8: Put when there is room again", s.Put("k", "v", none), api.OK)
	get(t, s, "k", ctx(1, 1), "v")
}
