package dvv_test

import (
	"math/rand"
	"slices"
	"strings"
	"testing"

	"burrow/api"
	"burrow/dvv"
)

// put is a call of Update, and what it should answer.
type put struct {
	s           api.Set
	c           []api.Entry
	node, count int
	value       string
	want        api.Set
	e           api.Errno
}

func (p put) try(t *testing.T, what string) {
	t.Helper()
	got, e := dvv.Update(p.s, p.c, p.node, p.count, p.value)
	if e != p.e || !alike(got, p.want) {
		t.Errorf("P5: %s: Update = %v, %d, want %v, %d", what, got, e, p.want, p.e)
	}
	if e != api.OK && !zero(got) {
		t.Errorf("P1: %s: beside %d stands %#v", what, e, got)
	}
}

func TestP5Update(t *testing.T) {
	one := set(clock(1, 1, 2, 5), sib(1, 1, "a"))
	two := set(clock(1, 2, 2, 5), sib(1, 1, "a"), sib(1, 2, "b"))
	three := set(clock(1, 3, 2, 5), sib(1, 2, "b"), sib(1, 3, "c"))
	mixed := set(clock(1, 4, 3, 4), sib(1, 2, "a"), sib(1, 4, "b"), sib(3, 1, "c"), sib(3, 4, "d"))
	longest := strings.Repeat("v", api.MaxValue)
	for what, p := range map[string]put{
		"into nothing":               {api.Set{}, nil, 0, 1, "", set(clock(0, 1), sib(0, 1, "")), api.OK},
		"into nothing, with a clock": {api.Set{}, clock(2, 5), 1, 1, "a", one, api.OK},
		"beside a value":             {one, nil, 1, 2, "b", two, api.OK},
		"over a value":               {two, clock(1, 1), 1, 3, "c", three, api.OK},
		"over all values":            {two, clock(1, 2), 1, 3, "c", set(clock(1, 3, 2, 5), sib(1, 3, "c")), api.OK},
		"with a clock of no value":   {two, clock(0, 9, 2, 9), 1, 3, "c", set(clock(0, 9, 1, 3, 2, 9), append(slices.Clone(two.List), sib(1, 3, "c"))...), api.OK},
		"ahead of all":               {mixed, nil, 0, 1, "x", set(clock(0, 1, 1, 4, 3, 4), append([]api.Sibling{sib(0, 1, "x")}, mixed.List...)...), api.OK},
		"in the middle":              {mixed, nil, 2, 9, "x", set(clock(1, 4, 2, 9, 3, 4), sib(1, 2, "a"), sib(1, 4, "b"), sib(2, 9, "x"), sib(3, 1, "c"), sib(3, 4, "d")), api.OK},
		"behind its own node":        {mixed, clock(3, 1), 1, 5, "x", set(clock(1, 5, 3, 4), sib(1, 2, "a"), sib(1, 4, "b"), sib(1, 5, "x"), sib(3, 4, "d")), api.OK},
		"behind all":                 {mixed, clock(1, 3), 15, api.MaxCount, "x", set(clock(1, 4, 3, 4, 15, api.MaxCount), sib(1, 4, "b"), sib(3, 1, "c"), sib(3, 4, "d"), sib(15, api.MaxCount, "x")), api.OK},
		"a gap in the counts":        {one, nil, 1, 100, "x", set(clock(1, 100, 2, 5), sib(1, 1, "a"), sib(1, 100, "x")), api.OK},
		"the longest value":          {api.Set{}, nil, 1, 1, longest, set(clock(1, 1), sib(1, 1, longest)), api.OK},
		"beside the longest value":   {set(clock(1, 1), sib(1, 1, longest)), nil, 1, 2, longest, set(clock(1, 2), sib(1, 1, longest), sib(1, 2, longest)), api.OK},
		"bytes that are no runes":    {api.Set{}, nil, 1, 1, "\x00\xff", set(clock(1, 1), sib(1, 1, "\x00\xff")), api.OK},
		"a set without values":       {set(clock(1, 7)), clock(1, 3), 1, 8, "x", set(clock(1, 8), sib(1, 8, "x")), api.OK},
	} {
		p.try(t, what)
	}
}

func TestP5UpdateOfTooMany(t *testing.T) {
	full := nodes(0, 1, 2, 3, 4, 5, 6, 7)
	six := row(api.MaxSiblings)
	for what, p := range map[string]put{
		"a value too many":                 {six, nil, 1, 7, "y", api.Set{}, api.ErrMany},
		"a value too many, by a blind one": {six, clock(2, 9), 1, 7, "y", api.Set{}, api.ErrMany},
		"the last value that may be":       {row(api.MaxSiblings - 1), nil, 1, 6, six.List[5].Value, six, api.OK},
		"over one of six":                  {six, clock(1, 1), 1, 7, "y", set(clock(1, 7), append(slices.Clone(six.List[1:]), sib(1, 7, "y"))...), api.OK},
		"a ninth node, the value's":        {set(full), nil, 8, 1, "y", api.Set{}, api.ErrMany},
		"a ninth node, the context's":      {set(full), clock(15, 1), 0, 2, "y", api.Set{}, api.ErrMany},
		"a ninth node of all three":        {set(full[:4]), full[4:], 8, 1, "y", api.Set{}, api.ErrMany},
		"eight nodes of all three":         {set(full[:4]), full[3:7], 7, 1, "y", set(full, sib(7, 1, "y")), api.OK},
		"a node that was there":            {set(full), full, 7, 2, "y", set(append(slices.Clone(full[:7]), api.Entry{Node: 7, Count: 2}), sib(7, 2, "y")), api.OK},
	} {
		p.try(t, what)
	}
}

func TestP5UpdateOfWrongArguments(t *testing.T) {
	two := set(clock(1, 2, 2, 5), sib(1, 1, "a"), sib(1, 2, "b"))
	for what, p := range map[string]put{
		"a node below 0":                  {s: two, node: -1, count: 9},
		"a node above MaxNode":            {s: two, node: 16, count: 1},
		"the greatest node":               {s: two, node: maxInt, count: 1},
		"a count of 0":                    {s: two, node: 3, count: 0},
		"a count below 0":                 {s: two, node: 3, count: minInt},
		"a count above MaxCount":          {s: two, node: 3, count: api.MaxCount + 1},
		"the greatest count":              {s: two, node: 3, count: maxInt},
		"a value too long":                {s: two, node: 1, count: 3, value: tooLong},
		"a value far too long":            {s: two, node: 1, count: 3, value: strings.Repeat("v", 100000)},
		"a dot of a value":                {s: two, node: 1, count: 2},
		"a dot that the set has seen":     {s: two, node: 2, count: 5},
		"a dot that the context has seen": {s: two, c: clock(1, 3), node: 1, count: 3},
		"a dot far below the context":     {s: two, c: clock(7, api.MaxCount), node: 7, count: 1},
		"ErrMany, too":                    {s: row(6), node: 1, count: 7, value: tooLong},
		"ErrMany, and a dot seen":         {s: row(6), c: clock(2, 2), node: 2, count: 2},
	} {
		p.e = api.ErrArg
		p.try(t, what)
	}
	for what, s := range notSets() {
		put{s: s, node: 0, count: 1, e: api.ErrArg}.try(t, what)
		put{s: s, c: clock(1, 9), node: 1, count: 10, e: api.ErrArg}.try(t, what)
	}
	for what, c := range notClocks() {
		put{s: two, c: c, node: 7, count: 7, e: api.ErrArg}.try(t, what)
	}
}

func TestP5Discard(t *testing.T) {
	three := set(clock(1, 3, 2, 5), sib(1, 2, "b"), sib(1, 3, "c"))
	mixed := set(clock(1, 4, 3, 4), sib(1, 2, "a"), sib(1, 4, "b"), sib(3, 1, "c"), sib(3, 4, "d"))
	full := nodes(0, 1, 2, 3, 4, 5, 6, 7)
	for what, d := range map[string]struct {
		s    api.Set
		c    []api.Entry
		want api.Set
		e    api.Errno
	}{
		"of nothing nothing":       {api.Set{}, nil, api.Set{}, api.OK},
		"of nothing something":     {api.Set{}, clock(3, 3), set(clock(3, 3)), api.OK},
		"nothing":                  {three, nil, three, api.OK},
		"one value":                {three, clock(1, 2), set(clock(1, 3, 2, 5), sib(1, 3, "c")), api.OK},
		"all values":               {three, clock(1, 9), set(clock(1, 9, 2, 5)), api.OK},
		"just up to the last":      {three, clock(1, 3), set(clock(1, 3, 2, 5)), api.OK},
		"a dot that is not there":  {three, clock(1, 1, 2, 9), set(clock(1, 3, 2, 9), three.List...), api.OK},
		"another node":             {three, clock(0, 9), set(clock(0, 9, 1, 3, 2, 5), three.List...), api.OK},
		"of two nodes":             {mixed, clock(1, 2, 3, 3), set(clock(1, 4, 3, 4), sib(1, 4, "b"), sib(3, 4, "d")), api.OK},
		"the first node":           {mixed, clock(1, 4), set(clock(1, 4, 3, 4), sib(3, 1, "c"), sib(3, 4, "d")), api.OK},
		"of six values":            {row(6), clock(1, 1), set(clock(1, 6), row(6).List[1:]...), api.OK},
		"to the eighth node":       {set(full[:7]), full[7:], set(full), api.OK},
		"a ninth node":             {set(full), clock(8, 1), api.Set{}, api.ErrMany},
		"a ninth node of a seen":   {set(full, sib(0, 1, "")), clock(0, 1, 8, 1), api.Set{}, api.ErrMany},
		"a ninth node, and no set": {set(full, sib(0, 2, "")), clock(8, 1), api.Set{}, api.ErrArg},
	} {
		got, e := dvv.Discard(d.s, d.c)
		if e != d.e || !alike(got, d.want) || e != api.OK && !zero(got) {
			t.Errorf("P5: %s: Discard = %v, %d, want %v, %d", what, got, e, d.want, d.e)
		}
	}
}

func TestP5DiscardOfWrongArguments(t *testing.T) {
	for what, s := range notSets() {
		if got, e := dvv.Discard(s, clock(1, 9)); !zero(got) || e != api.ErrArg {
			t.Errorf("P1, P5: %s: Discard = %v, %d, want ErrArg", what, got, e)
		}
	}
	for what, c := range notClocks() {
		if got, e := dvv.Discard(row(2), c); !zero(got) || e != api.ErrArg {
			t.Errorf("P1, P5: %s: Discard = %v, %d, want ErrArg", what, got, e)
		}
	}
}

func TestP5OfDrawnSets(t *testing.T) {
	r := rand.New(rand.NewSource(5))
	for range 300 {
		var s api.Set
		for range 30 {
			c := draw(r, 3)
			x, e := dvv.Discard(s, c)
			if e == api.OK {
				held(t, s, c, x, nil)
			}
			dot := sib(r.Intn(16), 1+r.Intn(9), "v")
			y, f := dvv.Update(s, c, dot.Node, dot.Count, dot.Value)
			if f == api.OK {
				held(t, s, c, y, []api.Sibling{dot})
			}
			switch r.Intn(3) {
			case 0:
				s = x
			case 1:
				s = y
			}
		}
	}
}

// held asks of a set that came out of another by a clock what P5 says, by Join and Covers.
func held(t *testing.T, s api.Set, c []api.Entry, got api.Set, added []api.Sibling) {
	t.Helper()
	want := slices.Clone(added)
	for _, v := range s.List {
		if !dvv.Covers(c, v.Node, v.Count) {
			want = append(want, v)
		}
	}
	slices.SortFunc(want, func(a, b api.Sibling) int {
		if a.Node != b.Node {
			return a.Node - b.Node
		}
		return a.Count - b.Count
	})
	whole := join(t, s.Clock, c)
	for _, v := range added {
		whole = join(t, whole, clock(v.Node, v.Count))
	}
	if !alike(got, set(whole, want...)) {
		t.Fatalf("P5: of %v with %v and %v: %v, want %v with the clock %v", s, c, added, got, want, whole)
	}
}
