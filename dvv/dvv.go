// Package dvv: clocks, and sets of values with dots: see DOC.md.
package dvv

import "burrow/api"

// Join is the least clock that has seen all that one of two has (P3).
func Join(a []api.Entry, b []api.Entry) ([]api.Entry, api.Errno) {
	if !isClock(a) || !isClock(b) {
		return nil, api.ErrArg
	}
	return join(a, b)
}

// Covers tells whether a clock has seen a dot (P3).
func Covers(c []api.Entry, node int, count int) bool {
	return isClock(c) && isDot(node, count) && seen(c, node, count)
}

// Encode writes a clock (P4).
func Encode(c []api.Entry) (string, api.Errno) {
	if !isClock(c) {
		return "", api.ErrArg
	}
	text := []byte{byte(len(c))}
	for _, e := range c {
		text = append(text, byte(e.Node))
		text = appendCount(text, e.Count)
	}
	return string(text), api.OK
}

// Decode reads a clock (P4).
func Decode(text string) ([]api.Entry, api.Errno) {
	if text == "" || len(text) != 1+int(text[0])*entryBytes {
		return nil, api.ErrContext
	}
	var c []api.Entry
	for at := 1; at < len(text); at += entryBytes {
		count := readCount(text[at+1 : at+entryBytes])
		c = append(c, api.Entry{Node: int(text[at]), Count: count})
	}
	if !isClock(c) {
		return nil, api.ErrContext
	}
	return c, api.OK
}

// Update puts a value into a set (P5).
func Update(s api.Set, c []api.Entry, node int, count int, value string) (api.Set, api.Errno) {
	if !isSet(s) || !isClock(c) || !isDot(node, count) || len(value) > api.MaxValue {
		return api.Set{}, api.ErrArg
	}
	if seen(s.Clock, node, count) || seen(c, node, count) {
		return api.Set{}, api.ErrArg
	}
	list := insert(unseen(s.List, c), api.Sibling{Node: node, Count: count, Value: value})
	if len(list) > api.MaxSiblings {
		return api.Set{}, api.ErrMany
	}
	clock, e := join(s.Clock, c, []api.Entry{{Node: node, Count: count}})
	if e != api.OK {
		return api.Set{}, e
	}
	return api.Set{Clock: clock, List: list}, api.OK
}

// Discard takes out of a set what a clock has seen (P5).
func Discard(s api.Set, c []api.Entry) (api.Set, api.Errno) {
	if !isSet(s) || !isClock(c) {
		return api.Set{}, api.ErrArg
	}
	clock, e := join(s.Clock, c)
	if e != api.OK {
		return api.Set{}, e
	}
	return api.Set{Clock: clock, List: unseen(s.List, c)}, api.OK
}
