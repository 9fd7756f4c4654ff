package burrow

import (
	"slices"
	"strings"

	"burrow/api"
	"burrow/dvv"
	"burrow/journal"
)

// closed tells whether the store was closed.
func (s *Store) closed() bool { return s.journal == nil }

// stopIfFailed makes the store read-only if a call's answer is that the disk has failed: what is on the disk by then may be more than the store knows, so nothing may be written behind it.
func (s *Store) stopIfFailed(answer *api.Errno) {
	if *answer == api.ErrDisk {
		s.readOnly = true
	}
}

// mutation is what a call of Put asks for, or why it is refused whatever the key has. The texts are copied, as the store keeps them.
func (s *Store) mutation(key string, value string, context string) (journal.Mutation, api.Errno) {
	if s.closed() {
		return journal.Mutation{}, api.ErrClosed
	}
	if !isKey(key) || len(value) > api.MaxValue {
		return journal.Mutation{}, api.ErrArg
	}
	next := s.counter + 1
	clock, e := dvv.Decode(context)
	if e != api.OK || dvv.Covers(clock, s.options.Node, next) {
		return journal.Mutation{}, api.ErrContext
	}
	if s.readOnly {
		return journal.Mutation{}, api.ErrReadOnly
	}
	return journal.Mutation{
		Node:    s.options.Node,
		Count:   next,
		Key:     strings.Clone(key),
		Context: clock,
		Value:   strings.Clone(value),
	}, api.OK
}

// takesAway tells whether the key has a value that the mutation's context has seen.
func (s *Store) takesAway(m journal.Mutation) bool {
	set, _ := s.sets.Get(m.Key)
	return slices.ContainsFunc(set.List, func(v api.Sibling) bool {
		return dvv.Covers(m.Context, v.Node, v.Count)
	})
}

// do does a mutation: on the disk first, so that the store knows nothing of one that failed there.
func (s *Store) do(m journal.Mutation) api.Errno {
	set, e := s.outcome(m)
	if e != api.OK {
		return e
	}
	if e := s.write(m); e != api.OK {
		return e
	}
	s.keep(m, set)
	return api.OK
}

// outcome is the set that a mutation gives to its key.
func (s *Store) outcome(m journal.Mutation) (api.Set, api.Errno) {
	set, _ := s.sets.Get(m.Key)
	if m.Delete {
		return dvv.Discard(set, m.Context)
	}
	return dvv.Update(set, m.Context, m.Node, m.Count, m.Value)
}

// write writes a mutation to the disk, and makes sure of all when it is the Every-th.
func (s *Store) write(m journal.Mutation) api.Errno {
	if s.disk.Left() < api.Spare {
		return api.ErrFull
	}
	if !s.journal.Append(m) {
		return api.ErrDisk
	}
	if s.options.Every == 0 || m.Count-s.held < s.options.Every {
		return api.OK
	}
	if !s.journal.Sync() {
		return api.ErrDisk
	}
	s.held = m.Count
	return api.OK
}

// keep gives a key the set that a mutation gave it.
func (s *Store) keep(m journal.Mutation, set api.Set) {
	s.counter = m.Count
	if len(set.List) == 0 {
		s.sets.Delete(m.Key)
		return
	}
	s.sets.Put(m.Key, set)
}

// redo does a mutation that is found on the disk; false: it is not the one that comes next, or none that a store has had.
func (s *Store) redo(m journal.Mutation) bool {
	if m.Count != s.counter+1 || !isKey(m.Key) {
		return false
	}
	set, e := s.outcome(m)
	if e != api.OK {
		return false
	}
	s.keep(m, set)
	return true
}

func isKey(key string) bool { return len(key) >= 1 && len(key) <= api.MaxKey }

func areOptions(o api.Options) bool {
	return within(o.Node, 0, api.MaxNode) && within(o.Every, 0, api.MaxEvery) && within(o.Roll, api.MinRoll, api.MaxRoll)
}

func within(n int, least int, most int) bool { return n >= least && n <= most }
