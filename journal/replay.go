package journal

import "burrow/api"

// replay takes in the records of a journal, and hands out what they come to.
type replay struct {
	redo    func(Mutation) bool
	restore func(counter int, sets []Kept) bool
	merge   *merged // the merge amid which the next record stands; nil: none
}

// merged is what was read of a merge.
type merged struct {
	counter int
	sets    []Kept
}

// file takes in the records of a file, and answers how many of its bytes they are. The first one that is not whole, or does not follow from those ahead of it, and all behind it are passed over.
func (p *replay) file(text string) int {
	r := &reader{text: text}
	whole := 0
	for r.at < len(text) {
		if !p.record(r) {
			p.merge = nil
			return whole
		}
		whole = r.at
	}
	return whole
}

// record takes in the next record; false: it is passed over.
func (p *replay) record(r *reader) bool {
	switch mark := r.length(); mark {
	case putMark, deleteMark:
		p.merge = nil
		m := r.mutation(mark == deleteMark)
		return !r.short && p.redo(m)
	case mergeMark:
		p.merge = &merged{counter: r.number()}
		return !r.short
	case keyMark, valueMark, endMark:
		return p.merge != nil && p.amid(mark, r)
	}
	return false
}

// amid takes in a record of a merge that has begun. Nothing is handed out ahead of the ending: a merge without one was given up.
func (p *replay) amid(mark int, r *reader) bool {
	m := p.merge
	switch {
	case mark == keyMark:
		m.sets = append(m.sets, Kept{Key: r.words(), Set: api.Set{Clock: r.clock()}})
	case mark == endMark:
		p.merge = nil
		return p.restore(m.counter, m.sets)
	case len(m.sets) == 0:
		return false
	default:
		set := &m.sets[len(m.sets)-1].Set
		node, count := r.dot()
		set.List = append(set.List, api.Sibling{Node: node, Count: count, Value: r.words()})
	}
	return !r.short
}
