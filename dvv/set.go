package dvv

import (
	"cmp"
	"slices"

	"burrow/api"
)

// compareDots is below 0, 0 or above as a value's dot comes ahead of another's, is the same, or comes behind.
func compareDots(a api.Sibling, b api.Sibling) int {
	return cmp.Or(cmp.Compare(a.Node, b.Node), cmp.Compare(a.Count, b.Count))
}

// isSet tells whether a set is one.
func isSet(s api.Set) bool {
	if !isClock(s.Clock) || len(s.List) > api.MaxSiblings {
		return false
	}
	for i, v := range s.List {
		if !isDot(v.Node, v.Count) || !seen(s.Clock, v.Node, v.Count) || len(v.Value) > api.MaxValue {
			return false
		}
		if i > 0 && compareDots(s.List[i-1], v) >= 0 {
			return false
		}
	}
	return true
}

// unseen is, in new memory, the values whose dots a clock has not seen.
func unseen(l []api.Sibling, c []api.Entry) []api.Sibling {
	var out []api.Sibling
	for _, v := range l {
		if !seen(c, v.Node, v.Count) {
			out = append(out, v)
		}
	}
	return out
}

// insert puts a value in its place by its dot. It may use the list's own memory, so the list must be the caller's.
func insert(l []api.Sibling, v api.Sibling) []api.Sibling {
	at, _ := slices.BinarySearchFunc(l, v, compareDots)
	return slices.Insert(l, at, v)
}
