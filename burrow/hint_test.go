package burrow_test

import (
	"math/rand"
	"strings"
	"testing"

	"burrow/api"
	"burrow/disk"
)

// hints is the names on a disk of which Open needs none.
func hints(d *disk.Disk) []string {
	var l []string
	for _, name := range d.List() {
		if strings.HasSuffix(name, ".hint") {
			l = append(l, name)
		}
	}
	return l
}

func removeHints(d *disk.Disk) {
	for _, name := range hints(d) {
		d.Remove(name)
	}
}

// longestHint is how many bytes the longest hint on a disk has.
func longestHint(d *disk.Disk) int {
	n := 0
	for _, name := range hints(d) {
		size, _ := d.Size(name)
		n = max(n, size)
	}
	return n
}

// sameAs holds what Open finds on a disk whose hints were tampered with against what it should.
func sameAs(t *testing.T, d *disk.Disk, o api.Options, want string, what string, at int) {
	t.Helper()
	if got := image(t, open(t, d, o)); got != want {
		t.Fatalf("P11: with hints %s at %d Open finds %s, want %s, in %q", what, at, got, want, d.List())
	}
}

// tamper does to the hints of a disk all that may be done to them, and holds what Open finds against what it finds without hints. It answers how many hints there are.
func tamper(t *testing.T, d *disk.Disk, o api.Options, turns []int) int {
	t.Helper()
	bare := d.Copy()
	removeHints(bare)
	want := image(t, open(t, bare, o))
	sameAs(t, d.Copy(), o, want, "untouched", 0)
	names := hints(d)
	for at := range longestHint(d) {
		for _, by := range turns {
			c := d.Copy()
			for _, name := range names {
				c.Spoil(name, at, by)
			}
			sameAs(t, c, o, want, "turned", at)
		}
		c := d.Copy()
		for _, name := range names {
			c.Cut(name, at)
		}
		sameAs(t, c, o, want, "cut", at)
	}
	for i, name := range names {
		c := d.Copy()
		c.Remove(name)
		sameAs(t, c, o, want, "taken away", i)
	}
	return len(names)
}

func allTurns() []int {
	var l []int
	for by := 1; by < 256; by++ {
		l = append(l, by)
	}
	return l
}

// TestP11HintsOfAMerge tampers with hints behind Merges that answered OK, and behind mutations and another merge.
func TestP11HintsOfAMerge(t *testing.T) {
	for _, x := range shapes() {
		for _, o := range someOptions() {
			l, s := build(t, o, x)
			for round := range 3 {
				is(t, "P10: Merge", l.merge(t, s), api.OK)
				tamper(t, l.d, o, []int{1, 2, 3, 4, 8, 16, 32, 64, 128, 255})
				var m *model
				s, m = l.open(t, o)
				for i := range 5 * round {
					l.do(t, s, m, o, mutation{key: "k" + x.name, value: longest[:20*i], context: none})
				}
				tamper(t, l.d, o, []int{1, 0x80})
			}
		}
	}
}

// TestP11HintsOfAMergeThatFailed tampers with hints behind Merges that a disk has broken off at each of their calls, and what a crash has left of those: this is where hints may be amiss, or beside what they no more speak of.
func TestP11HintsOfAMergeThatFailed(t *testing.T) {
	most := 0
	for _, x := range shapes() {
		turns := []int{1, 7, 0x80}
		if len(x.mutations) < 3 {
			turns = allTurns()
		}
		for at := 0; ; at++ {
			l, s := build(t, plain, x)
			failed := l.d.Failed()
			c := l.d.Copy()
			l.d.Fail(at)
			l.merge(t, s)
			if l.d.Failed() == failed {
				break
			}
			most = max(most, tamper(t, l.d, plain, turns))
			s = open(t, c, plain)
			c.Die(at)
			s.Merge()
			for steps := range 9 {
				for _, bytes := range []int{0, 3, 1 << 20} {
					d := c.Copy()
					d.Crash(alike(steps, bytes))
					tamper(t, d, plain, []int{1, 0x80})
				}
			}
		}
	}
	t.Logf("there were up to %d hints", most)
}

// TestP11HintsThatComeBack takes hints away while no store is open, goes on till the disk dies, in Open or in a Merge, and lets the crash bring them back.
func TestP11HintsThatComeBack(t *testing.T) {
	for _, x := range shapes() {
		for steps := range 12 {
			for at := range 14 {
				l, s := build(t, plain, x)
				is(t, "P10: Merge", l.merge(t, s), api.OK)
				s.Close()
				removeHints(l.d)
				l.d.Die(at)
				if l.tryOpen(t, plain); !l.d.Dead() {
					l.heal()
					s, m := l.open(t, plain)
					l.do(t, s, m, plain, mutation{key: "behind", value: "v", context: none})
					l.d.Die(at)
					l.merge(t, s)
				}
				l.crash(alike(steps, 9*at))
				tamper(t, l.d, plain, []int{1})
				l.mergeAndGoOn(t, plain)
			}
		}
	}
}

// anyTampering is done to hints while no store is open.
func anyTampering(r *rand.Rand, d *disk.Disk) {
	for _, name := range hints(d) {
		size, _ := d.Size(name)
		switch r.Intn(6) {
		case 0:
			d.Spoil(name, r.Intn(size+1), 1+r.Intn(255))
		case 1:
			d.Cut(name, r.Intn(size+1))
		case 2:
			d.Remove(name)
		}
	}
}
