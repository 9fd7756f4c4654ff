package journal

import (
	"strings"

	"burrow/api"
	"burrow/dvv"
)

// Mutation is a Put or a Delete: all that is needed to do it again.
type Mutation struct {
	Delete  bool
	Node    int // the dot: who did it, and how many mutations there are with it
	Count   int
	Key     string
	Context []api.Entry
	Value   string
}

// What a record begins with.
const (
	putMark    = 1
	deleteMark = 2
)

// entryBytes is what a clock's text has for an entry.
const entryBytes = 9

// encode writes a mutation. Each part tells its own length, so that a record that a crash has cut is known by what is missing. The dot is written as a clock of one entry.
func encode(m Mutation) string {
	mark := byte(putMark)
	if m.Delete {
		mark = deleteMark
	}
	dot, _ := dvv.Encode([]api.Entry{{Node: m.Node, Count: m.Count}})
	context, _ := dvv.Encode(m.Context)
	return string([]byte{mark}) + dot + context + sized(m.Key) + sized(m.Value)
}

// sized is a text behind its length.
func sized(text string) string { return string([]byte{byte(len(text))}) + text }

// decode reads the record that a text begins with, and tells how long it is; false: the text begins with no whole record.
func decode(text string) (Mutation, int, bool) {
	r := reader{text: text}
	mark := r.length()
	dot := r.clock()
	m := Mutation{Delete: mark == deleteMark, Context: r.clock(), Key: r.words(), Value: r.words()}
	if r.short || mark != putMark && mark != deleteMark || len(dot) != 1 {
		return Mutation{}, 0, false
	}
	m.Node, m.Count = dot[0].Node, dot[0].Count
	return m, r.at, true
}

// reader goes along a text, part by part. Behind a part that is not whole it gives nothing more.
type reader struct {
	text  string
	at    int
	short bool
}

// take is the next n bytes.
func (r *reader) take(n int) string {
	if r.short || n > len(r.text)-r.at {
		r.short = true
		return ""
	}
	part := r.text[r.at : r.at+n]
	r.at += n
	return part
}

// length is the next byte, as a number.
func (r *reader) length() int {
	b := r.take(1)
	if b == "" {
		return 0
	}
	return int(b[0])
}

// words is a text behind its length. It is copied: a piece of what was read would keep all of that in memory.
func (r *reader) words() string { return strings.Clone(r.take(r.length())) }

// clock is a clock's text, read.
func (r *reader) clock() []api.Entry {
	start := r.at
	r.take(r.length() * entryBytes)
	c, e := dvv.Decode(r.text[start:r.at])
	if e != api.OK {
		r.short = true
	}
	return c
}
