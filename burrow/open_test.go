package burrow_test

import (
	"strconv"
	"testing"

	"burrow/api"
	"burrow/burrow"
	"burrow/disk"
)

func TestP6OpenOfWrongArguments(t *testing.T) {
	d := disk.New(10000)
	for what, o := range map[string]api.Options{
		"zeros":                 {},
		"a node below 0":        {Node: -1, Roll: 400},
		"a node above MaxNode":  {Node: api.MaxNode + 1, Roll: 400},
		"the least node":        {Node: minInt, Roll: 400},
		"the greatest node":     {Node: maxInt, Roll: 400},
		"every below 0":         {Every: -1, Roll: 400},
		"every above MaxEvery":  {Every: api.MaxEvery + 1, Roll: 400},
		"the least every":       {Every: minInt, Roll: 400},
		"the greatest every":    {Every: maxInt, Roll: 400},
		"roll below MinRoll":    {Roll: api.MinRoll - 1},
		"roll above MaxRoll":    {Roll: api.MaxRoll + 1},
		"roll below 0":          {Roll: -400},
		"the least roll":        {Roll: minInt},
		"the greatest roll":     {Roll: maxInt},
		"all of it out of what": {Node: 99, Every: 999, Roll: 9},
	} {
		if s, e := burrow.Open(d, o); s != nil || e != api.ErrArg {
			t.Errorf("P6: Open with %s = %v, %d", what, s, e)
		}
		if s, e := burrow.Open(nil, o); s != nil || e != api.ErrArg {
			t.Errorf("P6: Open of no disk, with %s = %v, %d", what, s, e)
		}
	}
	if s, e := burrow.Open(nil, plain); s != nil || e != api.ErrArg {
		t.Errorf("P6: Open of no disk = %v, %d", s, e)
	}
	if len(d.List()) != 0 {
		t.Errorf("P6: what was refused has written %q", d.List())
	}
}

func TestP6OpenOfAnEmptyDisk(t *testing.T) {
	for _, o := range []api.Options{
		plain,
		{Node: 0, Every: 0, Roll: api.MinRoll},
		{Node: api.MaxNode, Every: api.MaxEvery, Roll: api.MaxRoll},
	} {
		s := open(t, disk.New(10000), o)
		counts(t, s, 0)
		hasKeys(t, s)
		get(t, s, "k", "")
	}
}

func TestP6OpenNeedsNoRoom(t *testing.T) {
	for _, room := range []int{0, 1, 399, api.Spare - 1, -1} {
		s := open(t, disk.New(room), plain)
		is(t, "P8: Put without room", s.Put("k", "v", none), api.ErrFull)
		counts(t, s, 0)
	}
	d := disk.New(api.Spare + 50)
	s := open(t, d, plain)
	fill(t, s, 1)
	is(t, "P8: Put with what is left", s.Put("k", longest, none), api.OK)
	is(t, "P8: Put without room", s.Put("k", "v", none), api.ErrFull)
	d.Create("stuffing")
	d.Append("stuffing", string(make([]byte, d.Left())))
	if d.Left() != 0 {
		t.Fatalf("%d bytes are left", d.Left())
	}
	want := image(t, s)
	for range 3 {
		if got := image(t, open(t, d, plain)); got != want {
			t.Errorf("P6: of a full disk Open finds %s, want %s", got, want)
		}
	}
}

func TestP6OpenOfADiskThatFails(t *testing.T) {
	for n := range 3 {
		for behind := range 4 {
			d := disk.New(100000)
			s := open(t, d, plain)
			fill(t, s, 10*n)
			want := image(t, s)
			d.Fail(behind)
			before := d.Failed()
			s, e := burrow.Open(d, plain)
			if (s == nil) != (e == api.ErrDisk) || (e == api.ErrDisk) != (d.Failed() > before) {
				t.Fatalf("P6: %d failed calls, and Open = %v, %d", d.Failed()-before, s, e)
			}
			d.Fail(100)
			if got := image(t, open(t, d, plain)); got != want {
				t.Errorf("P6: behind an Open that failed there is %s, want %s", got, want)
			}
		}
	}
}

func TestP6OpenOfADeadDisk(t *testing.T) {
	for _, n := range []int{0, 5} {
		d := disk.New(100000)
		s := open(t, d, plain)
		fill(t, s, n)
		is(t, "P9: Sync", s.Sync(), api.OK)
		want := image(t, s)
		d.Die(0)
		if s, e := burrow.Open(d, plain); s != nil || e != api.ErrDisk {
			t.Errorf("P6: Open of a dead disk = %v, %d", s, e)
		}
		d.Crash(nil)
		if got := image(t, open(t, d, plain)); got != want {
			t.Errorf("P6: when the disk lives again there is %s, want %s", got, want)
		}
	}
}

func TestP6OpenFindsWhatIsThere(t *testing.T) {
	d := disk.New(1 << 20)
	s := open(t, d, plain)
	want := image(t, s)
	for round := range 20 {
		o := api.Options{Node: 1, Every: round % 3, Roll: api.MinRoll + 97*(round%5)}
		s = open(t, d, o)
		if got := image(t, s); got != want {
			t.Fatalf("P6: Open the %d. time finds %s, want %s", round, got, want)
		}
		fill(t, s, 7)
		s.Put("shared", longest, none)
		s.Delete("n"+strconv.Itoa(round), ctx(1, s.Counter()))
		want = image(t, s)
		if round%2 == 0 {
			is(t, "P8: Close", s.Close(), api.OK)
		}
	}
}

func TestP6OpenOfACopy(t *testing.T) {
	d := disk.New(100000)
	s := open(t, d, plain)
	fill(t, s, 5)
	want := image(t, s)
	c := d.Copy()
	fill(t, s, 3)
	other := open(t, c, plain)
	if got := image(t, other); got != want {
		t.Errorf("P6: a copy has %s, want %s", got, want)
	}
	fill(t, other, 1)
	counts(t, other, 6)
	counts(t, s, 8)
}
