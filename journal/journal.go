// Package journal: the mutations of a store, one behind the other, in files of a disk that only grow; and merges, which are all that the mutations ahead of them have come to.
//
// The files have rising numbers. One is begun only when the one before is synced: so a crash cuts none but the last, and what is found is always a first part of what was written. A file that a crash has cut amid a record is written no more, as nothing can be taken off its end.
//
// A merge begins with a file of its own, and goes on through as many as it needs, one number behind the other. One without its last record was given up, and is passed over. One that is whole makes all files ahead of it needless: it does not matter which of them are still there.
package journal

import (
	"slices"
	"strconv"
	"strings"

	"burrow/disk"
)

// prefix is what the names of the journal's files begin with; their numbers follow.
const prefix = "data."

// Journal is a journal that was opened. A call of it that fails leaves it unfit for more writing.
type Journal struct {
	disk   *disk.Disk
	roll   int // bytes that a file has at most
	number int // the last file's; 0: there is none
	size   int // the last file's bytes
	cut    bool
}

// Open reads a disk's journal and hands out its mutations and merges in their order: a mutation to redo, a merge to restore, which must then forget all that came ahead. Where these answer false, and where a record is not whole, what is left of the file is passed over. When Open answers true, all that was read is held.
func Open(d *disk.Disk, roll int, redo func(Mutation) bool, restore func(counter int, sets []Kept) bool) (*Journal, bool) {
	j := &Journal{disk: d, roll: roll}
	p := &replay{redo: redo, restore: restore}
	for _, number := range j.needed(numbers(d.List())) {
		if !j.read(number, p) {
			return nil, false
		}
	}
	if !j.Sync() {
		return nil, false
	}
	return j, true
}

// Append writes a mutation behind all others. There must be room for it on the disk.
func (j *Journal) Append(m Mutation) bool {
	text := encode(m)
	if j.number == 0 || j.cut || j.size+len(text) > j.roll {
		if !j.begin() {
			return false
		}
	}
	return j.write(text)
}

// Sync makes sure of all that was written.
func (j *Journal) Sync() bool { return j.syncLast() && j.disk.SyncDir() }

// syncLast makes sure of the last file's bytes; those of the files before are sure already.
func (j *Journal) syncLast() bool {
	return j.number == 0 || j.disk.Sync(fileName(j.number))
}

// begin begins the next file.
func (j *Journal) begin() bool {
	if !j.syncLast() || !j.disk.Create(fileName(j.number+1)) {
		return false
	}
	j.number, j.size, j.cut = j.number+1, 0, false
	return true
}

// write writes behind the last file's bytes.
func (j *Journal) write(text string) bool {
	if !j.disk.Append(fileName(j.number), text) {
		return false
	}
	j.size += len(text)
	return true
}

// read lets a file's records be taken in. It is the last file from then on.
func (j *Journal) read(number int, p *replay) bool {
	text, there := j.text(fileName(number))
	if !there {
		return false
	}
	if number != j.number+1 {
		p.merge = nil
	}
	whole := p.file(text)
	j.number, j.size, j.cut = number, len(text), whole < len(text)
	return true
}

// text is all bytes of a file; false: it is not there, or the disk is dead.
func (j *Journal) text(name string) (string, bool) {
	size, there := j.disk.Size(name)
	if !there {
		return "", false
	}
	return j.disk.Read(name, 0, size)
}

func fileName(number int) string { return prefix + strconv.Itoa(number) }

// numbers is the numbers of those names that are of the journal's files, rising.
func numbers(names []string) []int {
	var out []int
	for _, name := range names {
		text, ours := strings.CutPrefix(name, prefix)
		number, err := strconv.Atoi(text)
		if ours && err == nil && number > 0 && name == fileName(number) {
			out = append(out, number)
		}
	}
	slices.Sort(out)
	return out
}
