package journal

import (
	"strconv"
	"strings"

	"burrow/api"
	"burrow/dvv"
)

// Mutation is a Put or a Delete: all that is needed to do it again.
type Mutation struct {
	Delete  bool
	Node    int // the dot: who did it, and how many mutations there are with it
	Count   int
	Key     string
	Context []api.Entry
	Value   string
}

// Kept is a key, and the set that it has.
type Kept struct {
	Key string
	Set api.Set
}

// What a record begins with. The last four are of merges: the beginning, with the counter; a key, with the clock of its set; one of the values of that set; the ending.
const (
	putMark = 1 + iota
	deleteMark
	mergeMark
	keyMark
	valueMark
	endMark
)

// entryBytes is what a clock's text has for an entry.
const entryBytes = 9

// ending is the last record of a merge.
const ending = string(rune(endMark))

// encode writes a mutation. Each part tells its own length, so that a record that a crash has cut is known by what is missing. The dot is written as a clock of one entry.
func encode(m Mutation) string {
	mark := byte(putMark)
	if m.Delete {
		mark = deleteMark
	}
	return string([]byte{mark}) + encodeDot(m.Node, m.Count) + encodeClock(m.Context) + sized(m.Key) + sized(m.Value)
}

// beginning is the first record of a merge.
func beginning(counter int) string {
	return string([]byte{mergeMark}) + sized(strconv.Itoa(counter))
}

// encodeKept writes a key and its set. The values stand in records of their own, as all of them together may be more than goes into a file.
func encodeKept(key string, set api.Set) []string {
	records := []string{string([]byte{keyMark}) + sized(key) + encodeClock(set.Clock)}
	for _, v := range set.List {
		records = append(records, string([]byte{valueMark})+encodeDot(v.Node, v.Count)+sized(v.Value))
	}
	return records
}

// sized is a text behind its length.
func sized(text string) string { return string([]byte{byte(len(text))}) + text }

func encodeClock(c []api.Entry) string {
	text, _ := dvv.Encode(c)
	return text
}

func encodeDot(node int, count int) string {
	return encodeClock([]api.Entry{{Node: node, Count: count}})
}

// reader goes along a text, part by part. Behind a part that is not whole it gives nothing more.
type reader struct {
	text  string
	at    int
	short bool
}

// take is the next n bytes.
func (r *reader) take(n int) string {
	if r.short || n > len(r.text)-r.at {
		r.short = true
		return ""
	}
	part := r.text[r.at : r.at+n]
	r.at += n
	return part
}

// length is the next byte, as a number.
func (r *reader) length() int {
	b := r.take(1)
	if b == "" {
		return 0
	}
	return int(b[0])
}

// words is a text behind its length. It is copied: a piece of what was read would keep all of that in memory.
func (r *reader) words() string { return strings.Clone(r.take(r.length())) }

// number is a number that was written as a text.
func (r *reader) number() int {
	n, err := strconv.Atoi(r.take(r.length()))
	if err != nil {
		r.short = true
	}
	return n
}

// clock is a clock's text, read.
func (r *reader) clock() []api.Entry {
	start := r.at
	r.take(r.length() * entryBytes)
	c, e := dvv.Decode(r.text[start:r.at])
	if e != api.OK {
		r.short = true
	}
	return c
}

// dot is the text of a clock of one entry, read.
func (r *reader) dot() (node int, count int) {
	c := r.clock()
	if len(c) != 1 {
		r.short = true
		return 0, 0
	}
	return c[0].Node, c[0].Count
}

// mutation is a mutation's record behind its mark, read.
func (r *reader) mutation(gone bool) Mutation {
	node, count := r.dot()
	return Mutation{Delete: gone, Node: node, Count: count, Context: r.clock(), Key: r.words(), Value: r.words()}
}
