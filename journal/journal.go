// Package journal: the mutations of a store, one behind the other, in files of a disk that only grow.
//
// The files have rising numbers. One is begun only when the one before is synced: so a crash cuts none but the last, and what is found is always a first part of what was written. A file that a crash has cut amid a record is written no more, as nothing can be taken off its end.
package journal

import (
	"slices"
	"strconv"
	"strings"

	"burrow/disk"
)

// prefix is what the names of the journal's files begin with; their numbers follow.
const prefix = "data."

// Journal is a journal that was opened. A call of it that fails leaves it unfit for more writing.
type Journal struct {
	disk   *disk.Disk
	roll   int // bytes that a file has at most
	number int // the last file's; 0: there is none
	size   int // the last file's bytes
	cut    bool
}

// Open reads a disk's journal and hands out all mutations in their order. Where redo answers false, and where a record is not whole, what is left of the file is passed over. When Open answers true, all that was read is held.
func Open(d *disk.Disk, roll int, redo func(Mutation) bool) (*Journal, bool) {
	j := &Journal{disk: d, roll: roll}
	for _, number := range numbers(d.List()) {
		if !j.read(number, redo) {
			return nil, false
		}
	}
	if !j.Sync() {
		return nil, false
	}
	return j, true
}

// Append writes a mutation behind all others. There must be room for it on the disk.
func (j *Journal) Append(m Mutation) bool {
	text := encode(m)
	if j.number == 0 || j.cut || j.size+len(text) > j.roll {
		if !j.begin() {
			return false
		}
	}
	if !j.disk.Append(fileName(j.number), text) {
		return false
	}
	j.size += len(text)
	return true
}

// Sync makes sure of all that was written.
func (j *Journal) Sync() bool { return j.syncLast() && j.disk.SyncDir() }

// syncLast makes sure of the last file's bytes; those of the files before are sure already.
func (j *Journal) syncLast() bool {
	return j.number == 0 || j.disk.Sync(fileName(j.number))
}

// begin begins the next file.
func (j *Journal) begin() bool {
	if !j.syncLast() || !j.disk.Create(fileName(j.number+1)) {
		return false
	}
	j.number, j.size, j.cut = j.number+1, 0, false
	return true
}

// read hands out the mutations of a file, which is the last one from then on.
func (j *Journal) read(number int, redo func(Mutation) bool) bool {
	size, there := j.disk.Size(fileName(number))
	rest, whole := j.disk.Read(fileName(number), 0, size)
	if !there || !whole {
		return false
	}
	for rest != "" {
		m, n, ok := decode(rest)
		if !ok || !redo(m) {
			break
		}
		rest = rest[n:]
	}
	j.number, j.size, j.cut = number, size, rest != ""
	return true
}

func fileName(number int) string { return prefix + strconv.Itoa(number) }

// numbers is the numbers of those names that are of the journal's files, rising.
func numbers(names []string) []int {
	var out []int
	for _, name := range names {
		text, ours := strings.CutPrefix(name, prefix)
		number, err := strconv.Atoi(text)
		if ours && err == nil && number > 0 && name == fileName(number) {
			out = append(out, number)
		}
	}
	slices.Sort(out)
	return out
}
