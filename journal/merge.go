package journal

import (
	"iter"

	"burrow/api"
)

// hintEnd is what the names of hints end in, behind the name of the file that they are of.
const hintEnd = ".hint"

// Merge is a merge that was begun: what there is is written anew, into files behind all others, and then the others are taken away. Until its last record is sure, all that was there ahead of it is there, too.
type Merge struct {
	journal *Journal
	others  []string // the names that there were ahead of it
	counter int
	first   int    // the number of its first file
	text    []byte // what the next file is to have
	whole   bool
}

// BeginMerge begins a merge of a store that has had so many mutations.
func (j *Journal) BeginMerge(counter int) *Merge {
	return &Merge{
		journal: j,
		others:  j.disk.List(),
		counter: counter,
		first:   j.number + 1,
		text:    []byte(beginning(counter)),
	}
}

// MergeBytes is how much room a merge needs, with its hint.
func MergeBytes(counter int, sets iter.Seq2[string, api.Set]) int {
	n := len(beginning(counter)) + len(ending) + len(hint(beginning(counter)))
	for key, set := range sets {
		for _, record := range encodeKept(key, set) {
			n += len(record)
		}
	}
	return n
}

// Write writes a key and its set.
func (m *Merge) Write(k Kept) bool {
	for _, record := range encodeKept(k.Key, k.Set) {
		if !m.add(record) {
			return false
		}
	}
	return true
}

// End ends a merge: when it answers true, what was written is sure and all that is on the disk.
func (m *Merge) End() bool {
	if !m.add(ending) || !m.flush() || !m.journal.syncLast() {
		return false
	}
	m.whole = true
	return m.giveHint() && m.removeOthers() && m.journal.disk.SyncDir()
}

// Undo takes away what was written of a merge that is not whole, as far as the disk lets it.
func (m *Merge) Undo() {
	if m.whole {
		return
	}
	for number := m.first; number <= m.journal.number; number++ {
		m.journal.disk.Remove(fileName(number))
	}
}

// add adds a record to those of the next file, or begins another file with it.
func (m *Merge) add(record string) bool {
	if len(m.text)+len(record) > m.journal.roll && !m.flush() {
		return false
	}
	m.text = append(m.text, record...)
	return true
}

// flush writes the next file.
func (m *Merge) flush() bool {
	j := m.journal
	if !j.begin() || !j.write(string(m.text)) {
		return false
	}
	m.text = nil
	return true
}

// giveHint gives the first file a hint.
func (m *Merge) giveHint() bool {
	d, name := m.journal.disk, fileName(m.first)+hintEnd
	return d.Create(name) && d.Append(name, hint(beginning(m.counter))) && d.Sync(name)
}

// removeOthers takes away what was there ahead of the merge.
func (m *Merge) removeOthers() bool {
	for _, name := range m.others {
		if !m.journal.disk.Remove(name) {
			return false
		}
	}
	return true
}

// hint is what a hint says: that a merge with this beginning has its ending, too.
func hint(beginning string) string { return beginning + ending }

// hinted tells whether a file has a hint by which a whole merge begins with it.
func (j *Journal) hinted(number int) bool {
	says, there := j.text(fileName(number) + hintEnd)
	if !there {
		return false
	}
	file, _ := j.text(fileName(number))
	r := &reader{text: file}
	mark, counter := r.length(), r.number()
	return !r.short && mark == mergeMark && says == hint(beginning(counter))
}

// needed is, of the numbers of all files, those of the files that must be read: what stands ahead of a whole merge is in it, too.
func (j *Journal) needed(all []int) []int {
	for i := len(all) - 1; i > 0; i-- {
		if j.hinted(all[i]) {
			return all[i:]
		}
	}
	return all
}
