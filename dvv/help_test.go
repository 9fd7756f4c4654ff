package dvv_test

import (
	"slices"
	"strings"
	"testing"

	"burrow/api"
	"burrow/dvv"
)

const minInt, maxInt = -1 << 63, 1<<63 - 1

var tooLong = strings.Repeat("v", api.MaxValue+1)

// clock is a list of entries, of nodes and counts by turns.
func clock(l ...int) []api.Entry {
	var c []api.Entry
	for i := 0; i < len(l); i += 2 {
		c = append(c, api.Entry{Node: l[i], Count: l[i+1]})
	}
	return c
}

// nodes is a clock of some nodes, each with the count 1.
func nodes(l ...int) []api.Entry {
	var c []api.Entry
	for _, n := range l {
		c = append(c, api.Entry{Node: n, Count: 1})
	}
	return c
}

func sib(node, count int, value string) api.Sibling {
	return api.Sibling{Node: node, Count: count, Value: value}
}

func set(c []api.Entry, l ...api.Sibling) api.Set {
	return api.Set{Clock: c, List: l}
}

// row is a set of node 1 with so many values, of the counts from 1 on.
func row(n int) api.Set {
	s := api.Set{Clock: clock(1, n)}
	for i := range n {
		s.List = append(s.List, sib(1, i+1, strings.Repeat("x", i)))
	}
	return s
}

func alike(a, b api.Set) bool {
	return slices.Equal(a.Clock, b.Clock) && slices.Equal(a.List, b.List)
}

// zero tells whether a set is the struct of zeros.
func zero(s api.Set) bool { return s.Clock == nil && s.List == nil }

// notClocks are lists that are no clocks.
func notClocks() map[string][]api.Entry {
	return map[string][]api.Entry{
		"a node below 0":             clock(-1, 1),
		"a node above MaxNode":       clock(api.MaxNode+1, 1),
		"the least node":             clock(minInt, 1),
		"the greatest node":          clock(maxInt, 1),
		"a count of 0":               clock(1, 0),
		"a count below 0":            clock(1, -1),
		"the least count":            clock(1, minInt),
		"a count above MaxCount":     clock(1, api.MaxCount+1),
		"the greatest count":         clock(1, maxInt),
		"falling nodes":              clock(2, 1, 1, 1),
		"a node twice":               clock(1, 1, 1, 2),
		"a bad entry behind a good":  clock(1, 1, 2, 0),
		"a bad entry ahead of good":  clock(0, 0, 2, 1),
		"falling nodes at the end":   clock(1, 1, 5, 1, 4, 1),
		"an entry too many":          nodes(0, 1, 2, 3, 4, 5, 6, 7, 8),
		"many entries, all the same": slices.Repeat(clock(1, 1), 5000),
	}
}

// notSets are sets that are none.
func notSets() map[string]api.Set {
	return map[string]api.Set{
		"a clock that is none":             set(clock(2, 1, 1, 1)),
		"a clock that is none, and values": set(clock(1, 5, 1, 6), sib(1, 1, "")),
		"an entry too many":                set(nodes(0, 1, 2, 3, 4, 5, 6, 7, 8)),
		"a dot that was not seen":          set(clock(1, 1), sib(1, 2, "")),
		"a dot of another node":            set(clock(1, 1), sib(2, 1, "")),
		"a dot that nothing has seen":      set(nil, sib(1, 1, "")),
		"a count of 0":                     set(clock(1, 1), sib(1, 0, "")),
		"a count below 0":                  set(clock(1, 1), sib(1, minInt, "")),
		"a count above MaxCount":           set(clock(1, api.MaxCount), sib(1, api.MaxCount+1, "")),
		"a node below 0":                   set(clock(1, 1), sib(-1, 1, "")),
		"a node above MaxNode":             set(clock(1, 1), sib(16, 1, "")),
		"falling counts":                   set(clock(1, 2), sib(1, 2, ""), sib(1, 1, "")),
		"falling nodes":                    set(clock(1, 2, 2, 2), sib(2, 1, ""), sib(1, 2, "")),
		"a dot twice":                      set(clock(1, 1), sib(1, 1, "a"), sib(1, 1, "b")),
		"a value too long":                 set(clock(1, 1), sib(1, 1, tooLong)),
		"a value too long behind a good":   set(clock(1, 2), sib(1, 1, ""), sib(1, 2, tooLong)),
		"a value too many":                 row(api.MaxSiblings + 1),
	}
}

// laid is a list with marked room behind it, in memory that is held against what it was.
type laid[T comparable] struct{ all, before []T }

func lay[T comparable](l []T, mark T) laid[T] {
	all := make([]T, 0, len(l)+3)
	all = append(append(all, l...), mark, mark, mark)
	return laid[T]{all: all, before: slices.Clone(all)}
}

func (l laid[T]) list() []T { return l.all[:len(l.all)-3] }

func (l laid[T]) untouched() bool { return slices.Equal(l.all, l.before) }

// scribble writes over all of a list's memory, its spare room too.
func scribble[T any](l []T, with T) {
	l = l[:cap(l)]
	for i := range l {
		l[i] = with
	}
}

func join(t *testing.T, a, b []api.Entry) []api.Entry {
	t.Helper()
	c, e := dvv.Join(a, b)
	if e != api.OK {
		t.Fatalf("P3: Join(%v, %v): %d", a, b, e)
	}
	return c
}
