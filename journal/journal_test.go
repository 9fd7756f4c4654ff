package journal

import (
	"math/rand"
	"reflect"
	"strconv"
	"strings"
	"testing"

	"burrow/api"
	"burrow/disk"
)

// full is a clock of as many entries as there may be, with great counts.
func full() []api.Entry {
	var c []api.Entry
	for node := range api.MaxEntries {
		c = append(c, api.Entry{Node: node, Count: api.MaxCount})
	}
	return c
}

// greatest is the mutation with the longest record.
func greatest(count int) Mutation {
	return Mutation{Node: api.MaxNode, Count: count, Key: strings.Repeat("k", api.MaxKey), Context: full(), Value: strings.Repeat("v", api.MaxValue)}
}

func small(count int) Mutation {
	return Mutation{Node: 1, Count: count, Key: "k" + strconv.Itoa(count), Value: "v"}
}

func samples() []Mutation {
	return []Mutation{
		small(1),
		{Node: 0, Count: api.MaxCount, Key: "\x00\xff", Value: ""},
		{Delete: true, Node: 3, Count: 77, Key: "k", Context: []api.Entry{{Node: 2, Count: 5}}},
		greatest(9),
	}
}

// first reads the record that a text begins with, and tells how long it is.
func first(text string) (m Mutation, n int, ok bool) {
	p := &replay{
		redo:    func(x Mutation) bool { m = x; return true },
		restore: func(int, []Kept) bool { return true },
	}
	r := &reader{text: text}
	if !p.record(r) {
		return Mutation{}, 0, false
	}
	return m, r.at, true
}

func TestRecordsReadAsWritten(t *testing.T) {
	for _, m := range samples() {
		text := encode(m)
		got, n, ok := first(text + "more")
		if !ok || n != len(text) || !reflect.DeepEqual(got, m) {
			t.Errorf("%+v reads as %+v, %d of %d, %v", m, got, n, len(text), ok)
		}
	}
}

func TestRecordsThatAreCutAreNone(t *testing.T) {
	for _, m := range samples() {
		text := encode(m)
		for at := range len(text) {
			if got, n, ok := first(text[:at]); ok || n != 0 || !reflect.DeepEqual(got, Mutation{}) {
				t.Errorf("the first %d bytes of %q read as %+v, %d, %v", at, text, got, n, ok)
			}
		}
	}
}

func TestRecordsOfAnyBytes(t *testing.T) {
	r := rand.New(rand.NewSource(1))
	all := samples()
	for range 50000 {
		b := []byte(encode(all[r.Intn(len(all))]))
		for range 1 + r.Intn(4) {
			b[r.Intn(len(b))] = byte(r.Intn(256))
		}
		if _, n, ok := first(string(b)); ok != (n > 0) || n > len(b) {
			t.Fatalf("%q: %d bytes, %v", b, n, ok)
		}
	}
	for _, text := range []string{"", "\x00", strings.Repeat("\x00", 100), "\x03" + encode(small(1))[1:], "\x01\x00" + encode(small(1))[11:], strings.Repeat("\xff", 5000)} {
		if _, _, ok := first(text); ok {
			t.Errorf("%q reads as a record", text)
		}
	}
}

// all opens a disk's journal, and tells what stands in it.
func all(t *testing.T, d *disk.Disk, roll int) (*Journal, []Mutation) {
	t.Helper()
	var l []Mutation
	j, ok := Open(d, roll, func(m Mutation) bool { l = append(l, m); return true }, noMerge(t))
	if !ok {
		t.Fatalf("Open fails")
	}
	return j, l
}

// noMerge is for disks on which there is no merge.
func noMerge(t *testing.T) func(int, []Kept) bool {
	return func(counter int, sets []Kept) bool {
		t.Fatalf("there is a merge of %d keys behind %d mutations", len(sets), counter)
		return false
	}
}

func appendAll(t *testing.T, j *Journal, l []Mutation) {
	t.Helper()
	for _, m := range l {
		if !j.Append(m) {
			t.Fatalf("Append(%+v) fails", m)
		}
	}
}

func TestJournalIsReadInOrder(t *testing.T) {
	d := disk.New(1 << 20)
	var want []Mutation
	for round := range 5 {
		j, got := all(t, d, api.MinRoll)
		if len(got) != len(want) || len(want) > 0 && !reflect.DeepEqual(got, want) {
			t.Fatalf("round %d: %d mutations, want %d", round, len(got), len(want))
		}
		var more []Mutation
		for i := range 50 {
			more = append(more, small(50*round+i+1), greatest(i+1))
		}
		appendAll(t, j, more)
		want = append(want, more...)
	}
	if n := len(d.List()); n < 101 {
		t.Errorf("only %d files: the order of their numbers beyond 9 and 99 was not tried", n)
	}
	for _, name := range d.List() {
		if size, _ := d.Size(name); size > api.MinRoll || size == 0 {
			t.Errorf("%s has %d bytes", name, size)
		}
	}
}

func TestJournalPassesOverOtherFiles(t *testing.T) {
	d := disk.New(1 << 20)
	j, _ := all(t, d, api.MinRoll)
	appendAll(t, j, []Mutation{small(1)})
	for _, name := range []string{"data.", "data.0", "data.01", "data.+1", "data.-1", "data.1.hint", "data.99999999999999999999", "x"} {
		d.Create(name)
		d.Append(name, encode(small(2)))
	}
	if _, got := all(t, d, api.MinRoll); len(got) != 1 {
		t.Errorf("%d mutations: %+v", len(got), got)
	}
}

func TestJournalWritesNothingBehindACut(t *testing.T) {
	first, second := encode(small(1)), encode(small(2))
	for keep := range len(second) {
		d := disk.New(1 << 20)
		j, _ := all(t, d, api.MaxRoll)
		appendAll(t, j, []Mutation{small(1)})
		j.Sync()
		appendAll(t, j, []Mutation{small(2)})
		d.Crash([]int{0, keep})
		j, got := all(t, d, api.MaxRoll)
		if len(got) != 1 {
			t.Fatalf("%d bytes of the second: %d mutations", keep, len(got))
		}
		appendAll(t, j, []Mutation{small(2), small(3)})
		if _, got = all(t, d, api.MaxRoll); !reflect.DeepEqual(got, []Mutation{small(1), small(2), small(3)}) {
			t.Fatalf("%d bytes of the second: %+v", keep, got)
		}
		if size, _ := d.Size(fileName(1)); size != len(first)+keep && keep > 0 {
			t.Fatalf("%d bytes of the second: the file has %d", keep, size)
		}
	}
}

func TestJournalPassesOverWhatIsNotRedone(t *testing.T) {
	d := disk.New(1 << 20)
	j, _ := all(t, d, api.MinRoll)
	appendAll(t, j, []Mutation{small(1), small(2), small(3), greatest(4), greatest(5)})
	var got []int
	j, ok := Open(d, api.MaxRoll, func(m Mutation) bool {
		got = append(got, m.Count)
		return m.Count != 2
	}, noMerge(t))
	if !ok || !reflect.DeepEqual(got, []int{1, 2, 5}) {
		t.Errorf("handed out are %v, %v", got, ok)
	}
	if _, got := all(t, d, api.MinRoll); len(d.List()) != 2 || len(got) != 5 {
		t.Errorf("%d files with %d mutations", len(d.List()), len(got))
	}
	j, _ = Open(d, api.MaxRoll, func(m Mutation) bool { return m.Count != 5 }, noMerge(t))
	appendAll(t, j, []Mutation{small(6)})
	if size, _ := d.Size(fileName(3)); size != len(encode(small(6))) {
		t.Errorf("behind what was not redone %d bytes are written into a new file", size)
	}
}

func TestJournalLeavesNoGap(t *testing.T) {
	for n := range 40 {
		d := disk.New(1 << 20)
		j, _ := all(t, d, api.MinRoll)
		for i := range n {
			appendAll(t, j, []Mutation{greatest(i + 1)})
		}
		d.Crash([]int{n / 2, 0, 0, 0, 0})
		_, got := all(t, d, api.MinRoll)
		for i, m := range got {
			if m.Count != i+1 {
				t.Fatalf("behind %d, %d is found in the place %d", n, m.Count, i+1)
			}
		}
	}
}

// mixed is mutations of all lengths, some files full of them.
func mixed() []Mutation {
	var l []Mutation
	for i := range 9 {
		m := small(i + 1)
		if i%3 == 2 {
			m = greatest(i + 1)
		}
		l = append(l, m)
	}
	return l
}

// TestJournalOnADiskThatFails lets each changing call fail, or be the last one ahead of the disk's death, and looks at what is found behind it.
func TestJournalOnADiskThatFails(t *testing.T) {
	for at := range 40 {
		for _, dies := range []bool{false, true} {
			d := disk.New(1 << 20)
			j, _ := all(t, d, api.MinRoll)
			if d.Fail(at); dies {
				d.Die(at)
			}
			n, failed := 0, d.Failed()
			for n < len(mixed()) && j.Append(mixed()[n]) {
				n++
			}
			if (n == len(mixed())) != (d.Failed() == failed) {
				t.Fatalf("the disk fails at %d, and %d mutations are taken", at, n)
			}
			if dies {
				d.Crash(nil)
			}
			d.Fail(1000)
			_, got := all(t, d, api.MinRoll)
			if len(got) != n || n > 0 && !reflect.DeepEqual(got, mixed()[:n]) {
				t.Fatalf("the disk fails at %d, behind %d mutations %d are found", at, n, len(got))
			}
		}
	}
}

func TestJournalOpenOfADiskThatFails(t *testing.T) {
	for n := range len(mixed()) {
		for at := range 4 {
			d := disk.New(1 << 20)
			j, _ := all(t, d, api.MinRoll)
			appendAll(t, j, mixed()[:n])
			failed := d.Failed()
			d.Fail(at)
			j, ok := Open(d, api.MinRoll, func(Mutation) bool { return true }, noMerge(t))
			if ok != (d.Failed() == failed) || ok != (j != nil) {
				t.Fatalf("the disk fails at %d, and Open = %v, %v", at, j, ok)
			}
			d.Die(0)
			if j, ok := Open(d, api.MinRoll, func(Mutation) bool { return true }, noMerge(t)); j != nil || ok {
				t.Fatalf("of a dead disk Open = %v, %v", j, ok)
			}
		}
	}
}

// TestJournalSyncHolds lets all be lost that is not sure.
func TestJournalSyncHolds(t *testing.T) {
	for n := range len(mixed()) + 1 {
		d := disk.New(1 << 20)
		j, _ := all(t, d, api.MinRoll)
		appendAll(t, j, mixed()[:n])
		if !j.Sync() {
			t.Fatalf("Sync fails")
		}
		d.Crash(make([]int, 20))
		if _, got := all(t, d, api.MinRoll); len(got) != n {
			t.Fatalf("of %d mutations that were synced %d are found", n, len(got))
		}
	}
}
