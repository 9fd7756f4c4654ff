package dvv_test

import (
	"math/rand"
	"slices"
	"strings"
	"testing"

	"burrow/api"
	"burrow/dvv"
)

func TestP3JoinOfClocks(t *testing.T) {
	full := nodes(0, 2, 4, 6, 8, 10, 12, 14)
	cases := []struct{ a, b, want []api.Entry }{
		{clock(1, 3, 4, 1), clock(1, 2, 7, 9), clock(1, 3, 4, 1, 7, 9)},
		{nil, nil, nil},
		{[]api.Entry{}, nil, nil},
		{nil, clock(0, 1), clock(0, 1)},
		{clock(0, 1), clock(15, api.MaxCount), clock(0, 1, 15, api.MaxCount)},
		{clock(3, api.MaxCount), clock(3, api.MaxCount-1), clock(3, api.MaxCount)},
		{clock(1, 2, 5, 9), clock(1, 7, 5, 3), clock(1, 7, 5, 9)},
		{full, full, full},
		{full, nil, full},
		{full[:3], full[3:], full},
		{full, clock(14, 2), append(slices.Clone(full[:7]), clock(14, 2)...)},
	}
	for _, c := range cases {
		for _, l := range [][2][]api.Entry{{c.a, c.b}, {c.b, c.a}} {
			if got, e := dvv.Join(l[0], l[1]); e != api.OK || !slices.Equal(got, c.want) {
				t.Errorf("P3: Join(%v, %v) = %v, %d, want %v", l[0], l[1], got, e, c.want)
			}
		}
	}
}

func TestP3JoinOfTooManyNodes(t *testing.T) {
	full := nodes(0, 1, 2, 3, 4, 5, 6, 7)
	for _, other := range [][]api.Entry{clock(8, 1), clock(15, 1), clock(0, 9, 15, 1), nodes(8, 9, 10, 11, 12, 13, 14, 15)} {
		if got, e := dvv.Join(full, other); got != nil || e != api.ErrMany {
			t.Errorf("P3: Join(%v, %v) = %v, %d, want ErrMany", full, other, got, e)
		}
		if got, e := dvv.Join(other, full); got != nil || e != api.ErrMany {
			t.Errorf("P3: Join(%v, %v) = %v, %d, want ErrMany", other, full, got, e)
		}
	}
}

func TestP3JoinOfNoClock(t *testing.T) {
	for what, bad := range notClocks() {
		for _, other := range [][]api.Entry{nil, clock(1, 1), bad, nodes(0, 1, 2, 3, 4, 5, 6, 15)} {
			a, e := dvv.Join(bad, other)
			b, f := dvv.Join(other, bad)
			if a != nil || b != nil || e != api.ErrArg || f != api.ErrArg {
				t.Errorf("P1, P3: %s: Join = %v, %d and %v, %d, want ErrArg", what, a, e, b, f)
			}
		}
	}
}

func TestP3JoinHasSeenJustWhatTheTwoHave(t *testing.T) {
	r := rand.New(rand.NewSource(3))
	for range 2000 {
		a, b := draw(r, 4), draw(r, 4)
		c := join(t, a, b)
		for node := range api.MaxNode + 1 {
			for count := 1; count <= 6; count++ {
				want := dvv.Covers(a, node, count) || dvv.Covers(b, node, count)
				if dvv.Covers(c, node, count) != want {
					t.Fatalf("P3: Join(%v, %v) = %v: %d:%d should be %v", a, b, c, node, count, want)
				}
			}
		}
	}
}

// draw is a clock of up to so many entries, with counts up to 5.
func draw(r *rand.Rand, most int) []api.Entry {
	l := r.Perm(api.MaxNode + 1)[:r.Intn(most+1)]
	slices.Sort(l)
	c := nodes(l...)
	for i := range c {
		c[i].Count = 1 + r.Intn(5)
	}
	return c
}

func TestP3Covers(t *testing.T) {
	c := clock(0, 1, 1, 3, 15, api.MaxCount)
	for _, x := range []struct {
		node, count int
		want        bool
	}{
		{0, 1, true}, {0, 2, false},
		{1, 1, true}, {1, 2, true}, {1, 3, true}, {1, 4, false}, {1, api.MaxCount, false},
		{2, 1, false}, {14, 1, false},
		{15, 1, true}, {15, api.MaxCount, true},
		{15, api.MaxCount + 1, false}, {15, maxInt, false},
		{1, 0, false}, {1, -1, false}, {1, minInt, false},
		{-1, 1, false}, {16, 1, false}, {minInt, 1, false}, {maxInt, 1, false},
	} {
		if dvv.Covers(c, x.node, x.count) != x.want {
			t.Errorf("P3: Covers(%v, %d, %d) = %v", c, x.node, x.count, !x.want)
		}
	}
	if dvv.Covers(nil, 0, 1) {
		t.Error("P3: a clock without entries has seen nothing")
	}
}

func TestP3CoversOfNoClock(t *testing.T) {
	for what, bad := range notClocks() {
		for _, v := range bad {
			if dvv.Covers(bad, v.Node, v.Count) || dvv.Covers(bad, v.Node, 1) {
				t.Errorf("P3: %s: Covers says that it has seen %v", what, v)
			}
		}
	}
}

const oneText = "\x01\x01\x00\x00\x00\x00\x00\x00\x00\x03"

func texts() map[string][]api.Entry {
	return map[string][]api.Entry{
		"\x00":  nil,
		oneText: clock(1, 3),
		"\x01\x0f\x40\x00\x00\x00\x00\x00\x00\x00":                                     clock(15, api.MaxCount),
		"\x01\x00\x3f\xff\xff\xff\xff\xff\xff\xff":                                     clock(0, api.MaxCount-1),
		"\x02\x02\x01\x02\x03\x04\x05\x06\x07\x08\x0a\x00\x00\x00\x00\x00\x00\x01\x00": clock(2, 0x0102030405060708, 10, 256),
	}
}

func TestP4Texts(t *testing.T) {
	for text, c := range texts() {
		if got, e := dvv.Encode(c); got != text || e != api.OK {
			t.Errorf("P4: Encode(%v) = %q, %d, want %q", c, got, e, text)
		}
		if got, e := dvv.Decode(text); !slices.Equal(got, c) || e != api.OK {
			t.Errorf("P4: Decode(%q) = %v, %d, want %v", text, got, e, c)
		}
	}
}

func TestP4LongestText(t *testing.T) {
	c := nodes(0, 2, 4, 6, 8, 10, 12, 14)
	text, e := dvv.Encode(c)
	if len(text) != 73 || text[0] != 8 || e != api.OK {
		t.Fatalf("P4: Encode(%v) = %q, %d", c, text, e)
	}
	if got, e := dvv.Decode(text); !slices.Equal(got, c) || e != api.OK {
		t.Errorf("P4: Decode(%q) = %v, %d, want %v", text, got, e, c)
	}
}

func TestP4EncodeOfNoClock(t *testing.T) {
	for what, bad := range notClocks() {
		if text, e := dvv.Encode(bad); text != "" || e != api.ErrArg {
			t.Errorf("P1, P4: %s: Encode = %q, %d, want ErrArg", what, text, e)
		}
	}
}

func TestP4DecodeOfNoClocksText(t *testing.T) {
	entry := oneText[1:]
	for what, text := range map[string]string{
		"nothing":                     "",
		"a byte behind no entries":    "\x00\x00",
		"an entry behind no entries":  "\x00" + entry,
		"no entry where there is one": "\x01",
		"an entry cut off":            oneText[:9],
		"a byte too many":             oneText + "\x00",
		"an entry too many":           oneText + "\x02" + entry[1:],
		"an entry too few":            "\x02" + entry,
		"a node twice":                "\x02" + entry + entry,
		"falling nodes":               "\x02\x02" + entry[1:] + entry,
		"a node above MaxNode":        "\x01\x10" + entry[1:],
		"the greatest byte as node":   "\x01\xff" + entry[1:],
		"a count of 0":                "\x01\x01\x00\x00\x00\x00\x00\x00\x00\x00",
		"a count above MaxCount":      "\x01\x01\x40\x00\x00\x00\x00\x00\x00\x01",
		"the greatest int":            "\x01\x01\x7f\xff\xff\xff\xff\xff\xff\xff",
		"a count past the ints":       "\x01\x01\x80\x00\x00\x00\x00\x00\x00\x01",
		"a count of ones":             "\x01\x01\xff\xff\xff\xff\xff\xff\xff\xff",
		"nine entries":                "\x09" + nineEntries(),
		"the greatest number, empty":  "\xff",
		"very long":                   strings.Repeat("\x01", 100000),
	} {
		if c, e := dvv.Decode(text); c != nil || e != api.ErrContext {
			t.Errorf("P1, P4: %s: Decode = %v, %d, want ErrContext", what, c, e)
		}
	}
}

// nineEntries is the text, but for the number, of what would be a clock if that could have an entry more.
func nineEntries() string {
	out := ""
	for n := range 9 {
		out += string([]byte{byte(n), 0, 0, 0, 0, 0, 0, 0, 1})
	}
	return out
}

func TestP4EveryTextThatDecodesIsTheTextOfItsClock(t *testing.T) {
	r := rand.New(rand.NewSource(4))
	for range 20000 {
		text, e := dvv.Encode(draw(r, api.MaxEntries))
		if e != api.OK {
			t.Fatalf("P4: Encode: %d", e)
		}
		b := []byte(text)
		b[r.Intn(len(b))] ^= 1 << r.Intn(8)
		c, e := dvv.Decode(string(b))
		if e == api.ErrContext && c == nil {
			continue
		}
		if back, f := dvv.Encode(c); e != api.OK || f != api.OK || back != string(b) {
			t.Fatalf("P4: Decode(%q) = %v, %d; Encode of that: %q, %d", b, c, e, back, f)
		}
	}
}
