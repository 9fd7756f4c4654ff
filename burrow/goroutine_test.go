package burrow_test

import (
	"runtime"
	"strconv"
	"testing"
	"time"

	"burrow/api"
	"burrow/disk"
)

// noneIsLeft holds the goroutines that there are against how many there were. One that has done its last may need a moment to be gone.
func noneIsLeft(t *testing.T, before int, what string) {
	t.Helper()
	for range 1000 {
		if runtime.NumGoroutine() <= before {
			return
		}
		time.Sleep(time.Millisecond)
	}
	t.Fatalf("P2: %d goroutines are left by %s", runtime.NumGoroutine()-before, what)
}

func TestP2NoGoroutineIsLeft(t *testing.T) {
	before := runtime.NumGoroutine()
	d := disk.New(100000)
	for range 20 {
		s := open(t, d, plain)
		fill(t, s, 3)
		s.Sync()
		s.Merge()
		s.Get("n0")
		s.Keys()
	}
	noneIsLeft(t, before, "calls of all kinds")
}

// TestP2NoGoroutineIsLeftByAMergeThatFails lets each changing call of a Merge fail, or be the last one; and refuses it behind that.
func TestP2NoGoroutineIsLeftByAMergeThatFails(t *testing.T) {
	before := runtime.NumGoroutine()
	for _, x := range shapes() {
		failures := 0
		for at := range 60 {
			l, s := build(t, plain, x)
			if l.d.Fail(at); at%2 == 0 {
				l.d.Die(at)
			}
			if s.Merge() == api.ErrDisk {
				failures++
				is(t, "P8: Merge", s.Merge(), api.ErrReadOnly)
			}
			s.Close()
			is(t, "P10: Merge", s.Merge(), api.ErrClosed)
			noneIsLeft(t, before, "a Merge of "+x.name+" that the disk fails at "+strconv.Itoa(at))
		}
		if failures == 0 {
			t.Errorf("no Merge of %s has failed", x.name)
		}
	}
}

func TestP2NoGoroutineIsLeftByAMergeWithoutRoom(t *testing.T) {
	before := runtime.NumGoroutine()
	for _, capacity := range []int{0, 5000, 9000, 12000} {
		d := disk.New(capacity)
		s := open(t, d, plain)
		for i := range 60 {
			s.Put("k"+strconv.Itoa(i), longest, none)
		}
		for range 5 {
			s.Merge()
		}
		noneIsLeft(t, before, "Merges of a disk of "+strconv.Itoa(capacity)+" bytes")
	}
}

// TestP2MergeDoesNotHangOnHowGoroutinesRun merges the same store many times: each time the same stands on the disk.
func TestP2MergeDoesNotHangOnHowGoroutinesRun(t *testing.T) {
	for _, x := range shapes() {
		want := ""
		for i := range 20 {
			l, s := build(t, plain, x)
			is(t, "P10: Merge", l.merge(t, s), api.OK)
			got := ""
			for _, name := range l.d.List() {
				size, _ := l.d.Size(name)
				text, _ := l.d.Read(name, 0, size)
				got += strconv.Quote(name) + strconv.Quote(text)
			}
			if i > 0 && got != want {
				t.Fatalf("P2: a Merge of %s writes %s, another one %s", x.name, got, want)
			}
			want = got
		}
	}
}
