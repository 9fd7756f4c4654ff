package burrow

import (
	"sync"

	"burrow/api"
	"burrow/dvv"
	"burrow/journal"
	"burrow/table"
)

// hasRoomToMerge tells whether all that lives can be written once more, while what there is still stands.
func (s *Store) hasRoomToMerge() bool {
	return s.disk.Left() >= journal.MergeBytes(s.counter, s.sets.All())
}

// merge writes anew what lives: one side reads it, this one writes it. Whichever way that ends, the other side has ended, and what was begun on the disk is whole or undone.
func (s *Store) merge() bool {
	m := s.journal.BeginMerge(s.counter)
	defer m.Undo()
	living := make(chan journal.Kept)
	var reading sync.WaitGroup
	reading.Go(func() { s.send(living) })
	defer reading.Wait()
	defer drain(living)
	for k := range living {
		if !m.Write(k) {
			return false
		}
	}
	if !m.End() {
		return false
	}
	s.held = s.counter
	return true
}

// send sends all that lives, by rising keys.
func (s *Store) send(living chan<- journal.Kept) {
	defer close(living)
	for key, set := range s.sets.All() {
		living <- journal.Kept{Key: key, Set: set}
	}
}

// drain takes what nobody wants any more, so that the sending side comes to its end.
func drain(living <-chan journal.Kept) {
	for range living {
	}
}

// restore takes what a merge has written in the place of all that the store had; false: no store has had that.
func (s *Store) restore(counter int, sets []journal.Kept) bool {
	var all table.Table[string, api.Set]
	for _, k := range sets {
		if !mayLive(k) {
			return false
		}
		all.Put(k.Key, k.Set)
	}
	if !within(counter, 0, api.MaxCount) {
		return false
	}
	s.sets, s.counter = all, counter
	return true
}

// mayLive tells whether a store may have a key with its set.
func mayLive(k journal.Kept) bool {
	_, e := dvv.Discard(k.Set, nil)
	return e == api.OK && isKey(k.Key) && len(k.Set.List) > 0
}
