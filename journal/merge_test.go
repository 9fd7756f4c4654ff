package journal

import (
	"reflect"
	"slices"
	"strconv"
	"strings"
	"testing"

	"burrow/api"
	"burrow/disk"
)

// kept is a key with so many values of so many bytes each.
func kept(key string, values int, bytes int) Kept {
	k := Kept{Key: key, Set: api.Set{Clock: []api.Entry{{Node: 1, Count: 9}}}}
	for i := range values {
		k.Set.List = append(k.Set.List, api.Sibling{Node: 1, Count: i + 1, Value: strings.Repeat("v", bytes)})
	}
	return k
}

// greatestKept is the key and the set with the most bytes: more than go into a file.
func greatestKept() Kept {
	k := kept(strings.Repeat("k", api.MaxKey), api.MaxSiblings, api.MaxValue)
	k.Set.Clock = full()
	return k
}

// someSets are what a store may have: nothing, little, much.
func someSets() [][]Kept {
	var many []Kept
	for i := range 60 {
		many = append(many, kept("key"+strconv.Itoa(1000+i), 1+i%6, 7*i%200))
	}
	return [][]Kept{
		nil,
		{kept("k", 1, 0)},
		{kept("\x00", 6, 0), kept("\xff", 2, 3)},
		{greatestKept()},
		append(slices.Clone(many), greatestKept()),
	}
}

// story is what a journal hands out, in words.
type story []string

func (s *story) redo(m Mutation) bool {
	*s = append(*s, "mutation "+strconv.Itoa(m.Count))
	return true
}

func (s *story) restore(counter int, sets []Kept) bool {
	*s = append(*s, "merge "+strconv.Itoa(counter)+" of "+strconv.Itoa(len(sets)))
	return true
}

// tells holds what a disk's journal hands out against what it should, and answers the journal.
func tells(t *testing.T, d *disk.Disk, want ...string) *Journal {
	t.Helper()
	var s story
	j, ok := Open(d, api.MinRoll, s.redo, s.restore)
	if !ok || !slices.Equal(s, want) {
		t.Fatalf("the journal in %q tells %q, %v, want %q", d.List(), []string(s), ok, want)
	}
	return j
}

// writeMerge writes a merge up to its ending.
func writeMerge(t *testing.T, j *Journal, counter int, sets []Kept) *Merge {
	t.Helper()
	m := j.BeginMerge(counter)
	for _, k := range sets {
		if !m.Write(k) {
			t.Fatalf("Write(%q) fails", k.Key)
		}
	}
	return m
}

func merge(t *testing.T, j *Journal, counter int, sets []Kept) {
	t.Helper()
	m := writeMerge(t, j, counter, sets)
	if !m.End() {
		t.Fatalf("End fails")
	}
	m.Undo()
}

// pairs goes along keys and sets, as a store does.
func pairs(sets []Kept) func(func(string, api.Set) bool) {
	return func(yield func(string, api.Set) bool) {
		for _, k := range sets {
			if !yield(k.Key, k.Set) {
				return
			}
		}
	}
}

func TestMergesReadAsWritten(t *testing.T) {
	for _, sets := range someSets() {
		for _, roll := range []int{api.MinRoll, 1000, api.MaxRoll} {
			for _, counter := range []int{0, 9, 1 << 61} {
				d := disk.New(1 << 20)
				j, _ := all(t, d, roll)
				appendAll(t, j, mixed())
				merge(t, j, counter, sets)
				var got []Kept
				j, ok := Open(d, roll, func(m Mutation) bool { return m.Count == 77 }, func(n int, l []Kept) bool {
					got = l
					return n == counter
				})
				if !ok || j.cut || len(got) != len(sets) || len(sets) > 0 && !reflect.DeepEqual(got, sets) {
					t.Fatalf("%d keys behind %d mutations read as %v, %v", len(sets), counter, got, ok)
				}
				for _, name := range d.List() {
					if size, _ := d.Size(name); size > roll || size == 0 {
						t.Errorf("%s has %d bytes, at most %d", name, size, roll)
					}
				}
				if n := MergeBytes(counter, pairs(sets)); n != d.Bytes() {
					t.Errorf("a merge of %d keys has %d bytes, %d are foretold", len(sets), d.Bytes(), n)
				}
			}
		}
	}
}

func TestMutationsStandBehindAMerge(t *testing.T) {
	d := disk.New(1 << 20)
	j, _ := all(t, d, api.MinRoll)
	appendAll(t, j, []Mutation{small(1), small(2)})
	merge(t, j, 2, []Kept{kept("k", 1, 1)})
	appendAll(t, j, []Mutation{small(3)})
	if !slices.Equal(d.List(), []string{"data.2", "data.2.hint"}) {
		t.Errorf("there are %q", d.List())
	}
	j = tells(t, d, "merge 2 of 1", "mutation 3")
	merge(t, j, 3, nil)
	d.Crash(make([]int, 9))
	if !slices.Equal(d.List(), []string{"data.3", "data.3.hint"}) {
		t.Errorf("behind a crash there are %q", d.List())
	}
	j = tells(t, d, "merge 3 of 0")
	appendAll(t, j, []Mutation{small(4)})
	tells(t, d, "merge 3 of 0", "mutation 4")
}

// TestMergesWithoutAnEndingAreNone lets a crash cut a merge at each of its bytes: the mutations ahead of it are found, and those that come behind.
func TestMergesWithoutAnEndingAreNone(t *testing.T) {
	for _, sets := range someSets() {
		for at := 0; ; at++ {
			d := disk.New(1 << 20)
			j, _ := all(t, d, api.MinRoll)
			appendAll(t, j, []Mutation{small(1)})
			m := writeMerge(t, j, 1, sets)
			m.add(ending)
			if !m.flush() {
				t.Fatalf("flush fails")
			}
			last := fileName(j.number)
			if size, _ := d.Size(last); at == size {
				break
			}
			d.Cut(last, at)
			j = tells(t, d, "mutation 1")
			appendAll(t, j, []Mutation{small(2)})
			j = tells(t, d, "mutation 1", "mutation 2")
			merge(t, j, 2, sets)
			tells(t, d, "merge 2 of "+strconv.Itoa(len(sets)))
		}
	}
}

// TestPartsOfAMergeAreNone takes files of a whole merge away, behind one that was given up: no merge is put together out of what is left.
func TestPartsOfAMergeAreNone(t *testing.T) {
	sets := someSets()[4]
	d := disk.New(1 << 20)
	j := tells(t, d)
	writeMerge(t, j, 1, sets[:30]).flush()
	m := writeMerge(t, tells(t, d), 2, sets)
	m.others = nil
	if !m.End() {
		t.Fatalf("End fails")
	}
	tells(t, d, "merge 2 of 61")
	d.Remove(fileName(m.first) + hintEnd)
	tells(t, d, "merge 2 of 61")
	for number := m.first; number <= m.journal.number; number++ {
		c := d.Copy()
		c.Remove(fileName(number))
		tells(t, c)
		for ahead := m.first; ahead < number; ahead++ {
			c.Remove(fileName(ahead))
			tells(t, c)
		}
	}
}

// TestAMergeThatIsCutDoesNotGoOn: what stands in the next file is no part of it.
func TestAMergeThatIsCutDoesNotGoOn(t *testing.T) {
	records := encodeKept("k", kept("k", 2, 3).Set)
	for cut, want := range map[string]story{"": {"merge 1 of 1"}, "\x00": nil, records[1][:4]: nil} {
		d := disk.New(1 << 20)
		d.Create("data.1")
		d.Append("data.1", beginning(1)+records[0]+records[1]+cut)
		d.Create("data.2")
		d.Append("data.2", records[2]+ending)
		tells(t, d, want...)
	}
}

func handedOut(d *disk.Disk) story {
	var s story
	Open(d, api.MinRoll, s.redo, s.restore)
	return s
}

func TestRecordsOfAMergeOutOfTheirPlace(t *testing.T) {
	whole := encodeKept("k", kept("k", 1, 3).Set)
	for text, want := range map[string]story{
		ending:                    nil,
		whole[0] + ending:         nil,
		whole[1] + ending:         nil,
		beginning(1) + whole[1]:   nil,
		beginning(1) + ending:     {"merge 1 of 0"},
		beginning(1):              nil,
		beginning(1) + "\x63":     nil,
		"\x03\x01x" + ending:      nil,
		"\x03\x00" + ending:       nil,
		"\x03\x0512" + ending:     nil,
		beginning(1) + "\x04\x01": nil,
		beginning(1) + whole[0] + beginning(2) + ending:       {"merge 2 of 0"},
		beginning(1) + encode(small(2)) + ending:              {"mutation 2"},
		beginning(1) + whole[0] + whole[1] + ending + ending:  {"merge 1 of 1"},
		beginning(1) + whole[0] + whole[1] + ending + "\x00":  {"merge 1 of 1"},
		beginning(1) + whole[0] + encode(small(2)) + whole[1]: {"mutation 2"},
	} {
		d := disk.New(1 << 20)
		d.Create("data.1")
		d.Append("data.1", text)
		tells(t, d, want...)
	}
}

// TestAMergeThatIsNotTaken: what is left of the file is passed over, and written no more.
func TestAMergeThatIsNotTaken(t *testing.T) {
	d := disk.New(1 << 20)
	j := tells(t, d)
	merge(t, j, 0, nil)
	appendAll(t, j, []Mutation{small(1)})
	var s story
	j, ok := Open(d, api.MinRoll, s.redo, func(int, []Kept) bool { return false })
	if !ok || len(s) != 0 || !j.cut {
		t.Errorf("behind a merge that is not taken stand %q, %v", s, ok)
	}
}

// TestAHintSparesWhatStandsAhead looks at what is read of a disk on which a merge has not taken away the files ahead of it.
func TestAHintSparesWhatStandsAhead(t *testing.T) {
	d := disk.New(1 << 20)
	j := tells(t, d)
	appendAll(t, j, []Mutation{small(1)})
	m := writeMerge(t, j, 1, []Kept{kept("k", 1, 1)})
	if m.others = []string{"none"}; m.End() {
		t.Fatalf("End does not fail")
	}
	m.Undo()
	if got := d.List(); !slices.Equal(got, []string{"data.1", "data.2", "data.2.hint"}) {
		t.Fatalf("there are %q", got)
	}
	tells(t, d, "merge 1 of 1")
	size, _ := d.Size("data.2.hint")
	for at := range size {
		for by := 1; by < 256; by++ {
			c := d.Copy()
			c.Spoil("data.2.hint", at, by)
			tells(t, c, "mutation 1", "merge 1 of 1")
		}
		c := d.Copy()
		c.Cut("data.2.hint", at)
		tells(t, c, "mutation 1", "merge 1 of 1")
	}
	d.Remove("data.2.hint")
	tells(t, d, "mutation 1", "merge 1 of 1")
}

// TestAHintIsSureAheadOfTheFirstRemoval lets the disk die when it is to take the first file away, and lose all that is not sure but the names.
func TestAHintIsSureAheadOfTheFirstRemoval(t *testing.T) {
	d := disk.New(1 << 20)
	j := tells(t, d)
	appendAll(t, j, []Mutation{small(1)})
	m := writeMerge(t, j, 1, []Kept{kept("k", 1, 1)})
	d.Die(7)
	if m.End() {
		t.Fatalf("End does not fail")
	}
	d.Crash(append([]int{3}, make([]int, 9)...))
	if got := d.List(); !slices.Equal(got, []string{"data.1", "data.2", "data.2.hint"}) {
		t.Fatalf("there are %q", got)
	}
	tells(t, d, "merge 1 of 1")
}

// TestHintsOfNoMergeAreNone lays hints beside files that no merge begins with.
func TestHintsOfNoMergeAreNone(t *testing.T) {
	for _, text := range []string{"", encode(small(2)), beginning(1)[:2], encode(small(2)) + beginning(2) + ending} {
		for _, says := range []string{"", ending, text + ending, hint(beginning(0)), hint(beginning(2))} {
			d := disk.New(1 << 20)
			for name, data := range map[string]string{"data.1": encode(small(1)), "data.2": text, "data.2.hint": says, "data.3.hint": says} {
				d.Create(name)
				d.Append(name, data)
			}
			if got := handedOut(d); len(got) == 0 || got[0] != "mutation 1" {
				t.Errorf("beside %q the hint %q lets %q be found", text, says, got)
			}
		}
	}
}

// TestMergesOnADiskThatFails lets each changing call of a merge fail, or be the last one: what was there ahead of it is found, or the merge. A disk that goes on has then just what it had, or the whole merge.
func TestMergesOnADiskThatFails(t *testing.T) {
	for _, sets := range someSets() {
		want := "merge 1 of " + strconv.Itoa(len(sets))
		for at := 0; ; at++ {
			d := disk.New(1 << 20)
			j := tells(t, d)
			appendAll(t, j, []Mutation{small(1)})
			j.Sync()
			before := d.List()
			c := d.Copy()
			d.Fail(at)
			whole := tryMerge(t, d, sets)
			if d.Fail(1000); !whole && !slices.Equal(before, d.List()) {
				t.Fatalf("behind a merge that was undone there are %q", d.List())
			}
			if got := handedOut(d); whole != (got[len(got)-1] == want) || !whole && got[0] != "mutation 1" {
				t.Fatalf("the disk fails at %d of a merge, and there is %q", at, got)
			}
			for steps := range 12 {
				x := d.Copy()
				x.Crash([]int{steps})
				if got := handedOut(x); got[len(got)-1] != want && !slices.Equal(got, story{"mutation 1"}) {
					t.Fatalf("the disk fails at %d of a merge, %d steps are kept, and there is %q", at, steps, got)
				}
			}
			c.Die(at)
			tryMerge(t, c, sets)
			dead := c.Dead()
			c.Crash(nil)
			if got := handedOut(c); got[len(got)-1] != want && got[0] != "mutation 1" {
				t.Fatalf("the disk dies at %d of a merge, and there is %q", at, got)
			}
			if !dead {
				break
			}
		}
	}
}

// tryMerge merges on a disk that may fail; it answers whether the merge is whole.
func tryMerge(t *testing.T, d *disk.Disk, sets []Kept) bool {
	t.Helper()
	j := &Journal{disk: d, roll: api.MinRoll, number: 1}
	m := j.BeginMerge(1)
	defer m.Undo()
	failed := d.Failed()
	for _, k := range sets {
		if !m.Write(k) {
			return false
		}
	}
	if m.End() != (d.Failed() == failed) {
		t.Fatalf("End answers what is not so")
	}
	return m.whole
}
