package burrow

import (
	"slices"
	"strings"

	"burrow/api"
	"burrow/dvv"
	"burrow/journal"
)

// closed tells whether the store was closed.
func (s *Store) closed() bool { return s.journal == nil }

// stopIfFailed makes the store read-only if a call's answer is that the disk has failed: what is on the disk by then may be more than the store knows, so nothing may be written behind it.
func (s *Store) stopIfFailed(answer *api.Errno) {
	if *answer == api.ErrDisk {
		s.readOnly = true
	}
}

// mutation is what a call of Put asks for, or why it is refused whatever the key has. The texts are copied, as the store keeps them.
func (s *Store) mutation(key string, value string, context string) (journal.Mutation, api.Errno) {
	if s.closed() {
		return journal.Mutation{}, api.ErrClosed
	}
	if !isKey(key) || len(value) > api.MaxValue {
		return journal.Mutation{}, api.ErrArg
	}
	next := s.counter + 1
	clock, e := dvv.Decode(context)
	if e != api.OK || dvv.Covers(clock, s.options.Node, next) {
		return journal.Mutation{}, api.ErrContext
	}
	if s.readOnly {
		return journal.Mutation{}, api.ErrReadOnly
	}
	return journal.Mutation{
		Node:    s.options.Node,
		Count:   next,
		Key:     strings.Clone(key),
		Context: clock,
		Value:   strings.Clone(value),
	}, api.OK
}

// takesAway tells whether the key has a value that the mutation's context has seen.
func (s *Store) takesAway(m journal.Mutation) bool {
	set, _ := s.sets.Get(m.Key)
	return slices.ContainsFunc(set.List, func(v api.Sibling) bool {
		return dvv.Covers(m.Context, v.Node, v.Count)
	})
}

// do does a mutation: in the store, then on the disk. What was begun in the store is undone, whichever way the call ends, unless the disk has taken it.
func (s *Store) do(m journal.Mutation) api.Errno {
	set, e := s.outcome(m)
	if e != api.OK {
		return e
	}
	if s.disk.Left() < api.Spare {
		return api.ErrFull
	}
	taken := false
	before, _ := s.sets.Get(m.Key)
	defer func() {
		if !taken {
			s.keep(m.Key, before, m.Count-1)
		}
	}()
	s.keep(m.Key, set, m.Count)
	if taken = s.write(m); !taken {
		return api.ErrDisk
	}
	return api.OK
}

// outcome is the set that a mutation gives to its key.
func (s *Store) outcome(m journal.Mutation) (api.Set, api.Errno) {
	set, _ := s.sets.Get(m.Key)
	if m.Delete {
		return dvv.Discard(set, m.Context)
	}
	return dvv.Update(set, m.Context, m.Node, m.Count, m.Value)
}

// write writes a mutation to the disk, and makes sure of all when it is the Every-th.
func (s *Store) write(m journal.Mutation) bool {
	if !s.journal.Append(m) {
		return false
	}
	if s.options.Every == 0 || s.counter-s.held < s.options.Every {
		return true
	}
	return s.hold()
}

// hold makes sure of all mutations so far.
func (s *Store) hold() bool {
	if !s.journal.Sync() {
		return false
	}
	s.held = s.counter
	return true
}

// keep gives a key its set, when there were so many mutations.
func (s *Store) keep(key string, set api.Set, counter int) {
	s.counter = counter
	if len(set.List) == 0 {
		s.sets.Delete(key)
		return
	}
	s.sets.Put(key, set)
}

// redo does a mutation that is found on the disk; false: it is not the one that comes next, or none that a store has had.
func (s *Store) redo(m journal.Mutation) bool {
	if m.Count != s.counter+1 || !isKey(m.Key) {
		return false
	}
	set, e := s.outcome(m)
	if e != api.OK {
		return false
	}
	s.keep(m.Key, set, m.Count)
	return true
}

func isKey(key string) bool { return len(key) >= 1 && len(key) <= api.MaxKey }

func areOptions(o api.Options) bool {
	return within(o.Node, 0, api.MaxNode) && within(o.Every, 0, api.MaxEvery) && within(o.Roll, api.MinRoll, api.MaxRoll)
}

func within(n int, least int, most int) bool { return n >= least && n <= most }
