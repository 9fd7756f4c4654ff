package dvv

import "burrow/api"

// The text of a clock's entry: a byte for the node, and those of the count.
const (
	countBytes = 8
	entryBytes = 1 + countBytes
)

// isDot tells whether a node and a count are a dot.
func isDot(node int, count int) bool {
	return node >= 0 && node <= api.MaxNode && count >= 1 && count <= api.MaxCount
}

// isClock tells whether a list is a clock.
func isClock(c []api.Entry) bool {
	if len(c) > api.MaxEntries {
		return false
	}
	for i, e := range c {
		if !isDot(e.Node, e.Count) || i > 0 && e.Node <= c[i-1].Node {
			return false
		}
	}
	return true
}

// seen tells whether a clock has seen a dot; both must be what they are called.
func seen(c []api.Entry, node int, count int) bool {
	for _, e := range c {
		if e.Node == node {
			return count <= e.Count
		}
	}
	return false
}

// join is the clock, in new memory, that has seen what any of some clocks has.
func join(clocks ...[]api.Entry) ([]api.Entry, api.Errno) {
	var counts [api.MaxNode + 1]int
	for _, c := range clocks {
		for _, e := range c {
			counts[e.Node] = max(counts[e.Node], e.Count)
		}
	}
	var out []api.Entry
	for node, count := range counts {
		if count > 0 {
			out = append(out, api.Entry{Node: node, Count: count})
		}
	}
	if len(out) > api.MaxEntries {
		return nil, api.ErrMany
	}
	return out, api.OK
}

// appendCount writes a count, the highest byte first.
func appendCount(text []byte, count int) []byte {
	for i := countBytes - 1; i >= 0; i-- {
		text = append(text, byte(count>>(8*i)))
	}
	return text
}

// readCount reads a count. One that is too great for an int comes out below 0, and so is no dot's.
func readCount(text string) int {
	count := 0
	for i := 0; i < len(text); i++ {
		count = count<<8 | int(text[i])
	}
	return count
}
