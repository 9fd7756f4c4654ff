package burrow_test

import (
	"maps"
	"slices"
	"strconv"
	"strings"

	"burrow/api"
)

// dot and thing are what the model has in the place of the store's sets: maps, gone through by rising keys.
type dot struct{ node, count int }

type thing struct {
	clock  map[int]int
	values map[dot]string
}

// model is a store without a disk, as P7 tells it, and as plainly as may be.
type model struct {
	node, counter int
	things        map[string]thing
}

func newModel(node int) *model { return &model{node: node, things: map[string]thing{}} }

// readContext reads a clock's text.
func readContext(text string) (map[int]int, bool) {
	if text == "" || len(text) != 1+9*int(text[0]) || text[0] > 8 {
		return nil, false
	}
	c := map[int]int{}
	last := -1
	for at := 1; at < len(text); at += 9 {
		node, count := int(text[at]), uint64(0)
		for _, b := range []byte(text[at+1 : at+9]) {
			count = count<<8 + uint64(b)
		}
		if node <= last || node > 15 || count < 1 || count > 1<<62 {
			return nil, false
		}
		c[node], last = int(count), node
	}
	return c, true
}

func (m *model) put(key, value, context string) api.Errno {
	if key == "" || len(key) > 40 || len(value) > 200 {
		return api.ErrArg
	}
	c, ok := readContext(context)
	if !ok || c[m.node] > m.counter {
		return api.ErrContext
	}
	t := m.without(key, c)
	t.clock[m.node] = m.counter + 1
	t.values[dot{m.node, m.counter + 1}] = value
	if len(t.values) > 6 || len(t.clock) > 8 {
		return api.ErrMany
	}
	m.counter++
	m.things[key] = t
	return api.OK
}

func (m *model) delete(key, context string) api.Errno {
	if key == "" || len(key) > 40 {
		return api.ErrArg
	}
	c, ok := readContext(context)
	if !ok || c[m.node] > m.counter {
		return api.ErrContext
	}
	t := m.without(key, c)
	if len(t.values) == len(m.things[key].values) {
		return api.OK
	}
	if len(t.clock) > 8 {
		return api.ErrMany
	}
	m.counter++
	m.things[key] = t
	if len(t.values) == 0 {
		delete(m.things, key)
	}
	return api.OK
}

// without is a copy of what a key has, less what a clock has seen, with the clock joined in.
func (m *model) without(key string, c map[int]int) thing {
	t := thing{clock: map[int]int{}, values: map[dot]string{}}
	maps.Copy(t.clock, m.things[key].clock)
	for node, count := range c {
		t.clock[node] = max(t.clock[node], count)
	}
	for d, v := range m.things[key].values {
		if d.count > c[d.node] {
			t.values[d] = v
		}
	}
	return t
}

// get is a key's values and its context.
func (m *model) get(key string) ([]string, string) {
	t := m.things[key]
	var l []string
	dots := slices.SortedFunc(maps.Keys(t.values), func(a, b dot) int {
		if a.node != b.node {
			return a.node - b.node
		}
		return a.count - b.count
	})
	for _, d := range dots {
		l = append(l, t.values[d])
	}
	var c []int
	for _, node := range slices.Sorted(maps.Keys(t.clock)) {
		c = append(c, node, t.clock[node])
	}
	return l, ctx(c...)
}

// image is what image is of a store.
func (m *model) image() string {
	var b strings.Builder
	b.WriteString(strconv.Itoa(m.counter))
	for _, key := range slices.Sorted(maps.Keys(m.things)) {
		l, c := m.get(key)
		b.WriteString("; " + strconv.Quote(key) + ": " + strconv.Quote(c) + " " + strings.Join(quoted(l), " "))
	}
	return b.String()
}
