package survey_test

import (
	"fmt"
	"math"
	"math/rand"
	"slices"
	"strings"
	"testing"

	"custumal/api"
	"custumal/disk"
	"custumal/keep"
	"custumal/survey"
)

func small() keep.Config {
	return keep.Config{Seed: [32]byte{4}, Places: 3, Common: 10, Each: 5}
}

// formatted: a new store's disk, that has some blocks more than it needs.
func formatted(t *testing.T, c keep.Config) (*disk.Disk, *keep.Store) {
	t.Helper()
	d, err := disk.New(keep.Blocks(c) + 3)
	if err != api.OK {
		t.Fatal(err)
	}
	s, err := keep.Format(d, c)
	if err != api.OK {
		t.Fatal(err)
	}
	return d, s
}

// The chapter's example (P34.1).
func TestExample(t *testing.T) {
	d, _ := formatted(t, small())
	l := expect(t, "a new store", d, small())
	if got := survey.Text(l); got != "0 common empty to 9\n10 place0 empty to 14\n15 place1 empty to 19\n20 place2 empty to 24\n" {
		t.Errorf("%q", got)
	}
	if len(l) != 25 || len(survey.Foul(l)) != 0 || survey.Sum(l, survey.Common) != (survey.Totals{Empty: 10}) || survey.Sum(l, 2) != (survey.Totals{Empty: 5}) || survey.Sum(l, 3) != (survey.Totals{}) {
		t.Errorf("%+v", l)
	}
}

// The kinds of blocks, and the common journal's place, have the numbers of the chapter (P34.1).
func TestNumbers(t *testing.T) {
	if survey.Empty != 0 || survey.Head != 1 || survey.Rest != 2 || survey.Stray != 3 || survey.Common != -1 {
		t.Error("another number")
	}
}

// What is no disk, no config, or has too few blocks; and a disk that is off: there is nothing but the error (P34.1).
func TestRefused(t *testing.T) {
	c := small()
	of := func(blocks int, off bool) *disk.Disk {
		d, _ := disk.New(blocks)
		if off {
			d.Arm(1)
			d.Write(0, disk.Block{})
		}
		return d
	}
	for i, x := range []struct {
		d    *disk.Disk
		c    keep.Config
		want api.Errno
	}{
		{nil, c, api.ErrArg}, {nil, keep.Config{}, api.ErrArg}, {&disk.Disk{}, c, api.ErrArg}, {&disk.Disk{}, keep.Config{}, api.ErrArg},
		{of(24, false), c, api.ErrArg}, {of(24, true), c, api.ErrArg}, {of(1, false), c, api.ErrArg}, {of(25, false), c, api.OK}, {of(26, false), c, api.OK}, {of(25, true), c, api.ErrDown}, {of(30, true), c, api.ErrDown},
		{of(30, false), keep.Config{Places: 0, Common: 1, Each: 1}, api.ErrArg}, {of(30, false), keep.Config{Places: 9, Common: 1, Each: 1}, api.ErrArg}, {of(30, false), keep.Config{Places: 1, Common: 0, Each: 1}, api.ErrArg},
		{of(30, false), keep.Config{Places: 1, Common: 1, Each: 0}, api.ErrArg}, {of(30, false), keep.Config{Places: 1, Now: -1, Common: 1, Each: 1}, api.ErrArg}, {of(30, true), keep.Config{Places: 1, Common: -1, Each: 9}, api.ErrArg},
		{of(8192, false), keep.Config{Places: 1, Common: 8192, Each: 1}, api.ErrArg}, {of(8192, false), keep.Config{Places: 1, Common: 8191, Each: 1}, api.OK}, {of(8191, false), keep.Config{Places: 8, Common: 8, Each: 1023}, api.ErrArg},
		{of(8192, false), keep.Config{Places: 8, Common: 8, Each: 1023}, api.OK}, {of(2, false), keep.Config{Places: 1, Common: 1, Each: 1}, api.OK}, {of(30, false), keep.Config{Places: 2, Common: math.MinInt, Each: math.MaxInt}, api.ErrArg},
	} {
		l, err := survey.Rows(x.d, x.c)
		if err != x.want || err != api.OK && len(l) != 0 || err == api.OK && len(l) != keep.Blocks(x.c) {
			t.Errorf("%d: %v, %d rows", i, err, len(l))
		}
	}
}

// kinds: each block's kind as a letter, and of records the number's last digit.
func kinds(l []survey.Row) string {
	var b strings.Builder
	for _, r := range l {
		b.WriteByte("-HR*"[r.Kind])
		if r.Kind == survey.Head || r.Kind == survey.Rest {
			fmt.Fprint(&b, r.Record%10)
		}
	}
	return b.String()
}

// Blocks laid by hand: what is a head, what stands behind it, and what is something else (P34.1).
func TestBlocks(t *testing.T) {
	full := strings.Repeat("x", 117)
	// The least: a common journal and one place, which stay as they are; the blocks are those of the second place.
	c := keep.Config{Places: 3, Common: 2, Each: 6}
	for _, x := range []struct {
		blocks []disk.Block
		want   string
	}{
		{nil, "------"},
		{[]disk.Block{head(0, 0, "")}, "H0-----"},
		{[]disk.Block{head(0, 3, "abc"), head(1, 117, full)}, "H0H1----"},
		{[]disk.Block{head(0, 118, full), rest("y"), head(1, 1, "a")}, "H0R0H1---"},
		{[]disk.Block{head(0, 234, full), rest(full), head(1, 235, full), rest(full), rest("z")}, "H0R0H1R1R1-"},
		{[]disk.Block{head(0, 702, full), rest(full), rest(full), rest(full), rest(full), rest(full)}, "H0R0R0R0R0R0"},
		{[]disk.Block{head(0, 703, full), rest(full), rest(full), rest(full), rest(full), rest(full)}, "******"},
		{[]disk.Block{head(0, 702-117, full), {}, {}, {9}, head(1, 1, "a"), head(1, 1, "a")}, "H0R0R0R0R0H1"},
		{[]disk.Block{head(1, 1, "a"), head(0, 1, "a")}, "**----"},
		{[]disk.Block{head(0, 1, "a"), head(2, 1, "a"), {}, head(1, 1, "a")}, "H0*-*--"},
		{[]disk.Block{head(0, 1, "a"), {}, head(1, 1, "a"), rest("y")}, "H0-**--"},
		{[]disk.Block{head(0, 1, "a"), rest("y"), rest("y")}, "H0**---"},
		{[]disk.Block{rest("y"), head(0, 1, "a")}, "**----"},
		{[]disk.Block{{}, head(0, 1, "a")}, "-*----"},
		{[]disk.Block{head(0, 1, "ab")}, "*-----"},
		{[]disk.Block{head(0, 0, "a")}, "*-----"},
		{[]disk.Block{{127: 1}, {}, {0: 1}, {1: 255}}, "*-**--"},
		{[]disk.Block{{}, {}, {}, {}, {}, {5}}, "-----*"},
		{[]disk.Block{{2}, {3}}, "**----"},
		{[]disk.Block{head(0, 1, "a"), head(1, 1, "a"), head(2, 1, "a"), head(3, 1, "a"), head(4, 1, "a"), head(5, 1, "a")}, "H0H1H2H3H4H5"},
		{[]disk.Block{head(0, 1, "a"), head(1, 1, "a"), head(2, 1, "a"), head(3, 1, "a"), head(4, 1, "a"), head(5, 118, full)}, "H0H1H2H3H4*"},
		{[]disk.Block{head(0, 65535, full), rest(full)}, "**----"},
		// A head behind a head is a rest, where the count asks for it.
		{[]disk.Block{head(0, 118, full), head(0, 1, "a"), head(1, 118, full), head(2, 1, "a")}, "H0R0H1R1--"},
	} {
		blocks := make([]disk.Block, 20)
		copy(blocks[8:14], x.blocks)
		l := expect(t, x.want, diskOf(t, blocks), c)
		if got := kinds(l); got != "--"+"------"+x.want+"------" {
			t.Errorf("%s, not %s", got, x.want)
		}
		for i, r := range l {
			if isRecord := r.Kind == survey.Head || r.Kind == survey.Rest; r.Block != i || !isRecord && r.Record != -1 || r.Place != []int{-1, 0, 1, 2}[(i+4)/6] {
				t.Errorf("row %d: %+v", i, r)
			}
		}
	}
	// Each journal for itself, up to its end; what is behind all is no row.
	blocks := make([]disk.Block, 22)
	blocks[0], blocks[1], blocks[2], blocks[7], blocks[8], blocks[13], blocks[14], blocks[19], blocks[20] = head(0, 118, full), rest("y"), head(0, 1, "a"), rest("y"), head(0, 3, "abc"), rest("z"), head(1, 1, "a"), disk.Block{9}, head(0, 1, "a")
	if got := kinds(expect(t, "all", diskOf(t, blocks), c)); got != "H0R0"+"H0----*"+"H0----*"+"*----*" {
		t.Errorf("%s", got)
	}
}

// Blocks by chance, in configs by chance (P34.1).
func TestRowsByChance(t *testing.T) {
	t.Parallel()
	seen := [4]int{}
	for round := range 300 {
		c := rand.New(rand.NewSource(int64(round)))
		conf := keep.Config{Places: 1 + c.Intn(8), Common: 1 + c.Intn(30), Each: 1 + c.Intn(20)}
		var blocks []disk.Block
		for place := range conf.Places + 1 {
			size := conf.Each
			if place == 0 {
				size = conf.Common
			}
			blocks = append(blocks, chanceBlocks(c, size)...)
		}
		l := expect(t, fmt.Sprint("round ", round), diskOf(t, append(blocks, make([]disk.Block, c.Intn(3))...)), conf)
		for _, r := range l {
			seen[r.Kind]++
		}
	}
	if slices.Min(seen[:]) < 500 {
		t.Errorf("so many of each kind alone: %v", seen)
	}
}

// What was written, but doesn't last yet, stands there (P34.1).
func TestWhatWaits(t *testing.T) {
	d, _ := formatted(t, small())
	d.Write(11, disk.Block{7})
	d.Write(0, head(0, 1, "a"))
	if got := kinds(expect(t, "writes that wait", d, small())); got != "H0---------"+"-*---"+"-----"+"-----" {
		t.Error(got)
	}
	d.Crash(nil)
	if got := kinds(expect(t, "a crash", d, small())); got != strings.Repeat("-", 25) {
		t.Error(got)
	}
}

var far = []int{math.MinInt, math.MinInt + 1, -77, -2, -1, 0, 1, 2, 3, 4, 9, 10, 1 << 40, math.MaxInt - 1, math.MaxInt}

// Totals of a place's rows alone, of the four kinds alone (P34.1).
func TestSum(t *testing.T) {
	l := []survey.Row{
		{0, -1, 0, -1}, {1, -1, 1, 0}, {2, -1, 2, 0}, {3, -1, 3, -1}, {4, -1, 3, -1}, {5, 0, 1, 0}, {6, 0, 1, 0}, {7, 0, 0, 0}, {7, 0, 0, 0}, {7, 0, 0, 0}, {8, 0, 4, 0}, {8, 0, -1, 0}, {8, 2, 2, 0}, {9, 2, 5, 0},
		{9, 3, 99, 0}, {-5, math.MinInt, 2, -9}, {3, -1, 2, 7}, {3, math.MaxInt, 3, 7}, {4, -2, 0, 0},
	}
	for _, x := range []struct {
		place int
		want  survey.Totals
	}{
		{-1, survey.Totals{Empty: 1, Head: 1, Rest: 2, Stray: 2}}, {0, survey.Totals{Empty: 3, Head: 2}}, {1, survey.Totals{}}, {2, survey.Totals{Rest: 1}}, {3, survey.Totals{}},
		{math.MinInt, survey.Totals{Rest: 1}}, {math.MaxInt, survey.Totals{Stray: 1}}, {-2, survey.Totals{Empty: 1}}, {8, survey.Totals{}},
	} {
		if got := survey.Sum(l, x.place); got != x.want {
			t.Errorf("%d: %+v, not %+v", x.place, got, x.want)
		}
		if got := survey.Sum(nil, x.place); got != (survey.Totals{}) {
			t.Errorf("of no rows: %+v", got)
		}
	}
}

// The places from 0 on that have something, each once, rising, in whatever order the rows stand (P34.1).
func TestFoul(t *testing.T) {
	for i, x := range []struct {
		l    []survey.Row
		want []int
	}{
		{nil, nil},
		{[]survey.Row{{}}, nil},
		{[]survey.Row{{Place: 0, Kind: survey.Head}}, []int{0}},
		{[]survey.Row{{Place: 0, Kind: survey.Rest}, {Place: 1, Kind: survey.Stray}, {Place: 2, Kind: survey.Head}, {Place: 3}}, []int{0, 1, 2}},
		{[]survey.Row{{Place: 5, Kind: 3}, {Place: 1, Kind: 3}, {Place: 5, Kind: 1}, {Place: 1}, {Place: 3, Kind: 2}, {Place: 5}}, []int{1, 3, 5}},
		{[]survey.Row{{Place: -1, Kind: 3}, {Place: -1, Kind: 1}, {Place: -2, Kind: 2}, {Place: math.MinInt, Kind: 3}}, nil},
		{[]survey.Row{{Place: 7, Kind: 4}, {Place: 6, Kind: -1}, {Place: 8, Record: 9}, {Place: math.MaxInt, Kind: 99}}, []int{6, 7, math.MaxInt}},
		{[]survey.Row{{Place: 2, Kind: 0}, {Place: 2, Kind: 1}, {Place: 2, Kind: 0}}, []int{2}},
	} {
		if got := survey.Foul(x.l); said(got) != said(x.want) {
			t.Errorf("%d: %v, not %v", i, got, x.want)
		}
	}
}

// Lines by hand: numbers far out, other kinds, rows that go on and those that don't (P34.1).
func TestText(t *testing.T) {
	empty := func(place int, blocks ...int) (l []survey.Row) {
		for _, b := range blocks {
			l = append(l, survey.Row{Block: b, Place: place, Record: -1})
		}
		return l
	}
	for _, x := range []struct {
		l    []survey.Row
		want string
	}{
		{nil, ""},
		{empty(-1, 0), "0 common empty\n"},
		{empty(-1, 0, 1), "0 common empty to 1\n"},
		{empty(3, 7, 8, 9), "7 place3 empty to 9\n"},
		{empty(3, 7, 8, 9, 11, 12, 14), "7 place3 empty to 9\n11 place3 empty to 12\n14 place3 empty\n"},
		{empty(0, 5, 5, 4, 3), "5 place0 empty\n5 place0 empty\n4 place0 empty\n3 place0 empty\n"},
		{empty(0, -2, -1, 0, 1), "-2 place0 empty to 1\n"},
		{empty(-2, -9), "-9 place-2 empty\n"},
		{slices.Concat(empty(-1, 0, 1), empty(0, 2, 3), empty(1, 4), empty(0, 5), empty(-1, 6, 7)), "0 common empty to 1\n2 place0 empty to 3\n4 place1 empty\n5 place0 empty\n6 common empty to 7\n"},
		{empty(0, math.MaxInt-1, math.MaxInt, math.MinInt, math.MinInt+1), "9223372036854775806 place0 empty to 9223372036854775807\n-9223372036854775808 place0 empty to -9223372036854775807\n"},
		{[]survey.Row{{0, -1, 1, 0}, {1, -1, 1, 1}, {2, -1, 2, 1}, {3, -1, 2, 1}}, "0 common head 0\n1 common head 1\n2 common rest 1\n3 common rest 1\n"},
		{[]survey.Row{{4, 10, 3, -1}, {5, 10, 3, -1}, {6, 10, 3, 8}}, "4 place10 stray\n5 place10 stray\n6 place10 stray\n"},
		{[]survey.Row{{4, 0, 4, 1}, {5, 0, 4, 1}, {6, 0, -1, 2}, {7, math.MinInt, math.MaxInt, -3}}, "4 place0 ?\n5 place0 ?\n6 place0 ?\n7 place-9223372036854775808 ?\n"},
		{[]survey.Row{{4, 0, 1, -1}, {5, 0, 2, math.MinInt}, {6, 0, 2, math.MaxInt}}, "4 place0 head -1\n5 place0 rest -9223372036854775808\n6 place0 rest 9223372036854775807\n"},
		{[]survey.Row{{4, 0, 0, 7}, {5, 0, 0, 8}, {6, 0, 1, 9}, {7, 0, 0, 9}, {8, 0, 3, 9}, {9, 0, 0, 9}, {10, 0, 0, 9}}, "4 place0 empty to 5\n6 place0 head 9\n7 place0 empty\n8 place0 stray\n9 place0 empty to 10\n"},
		{[]survey.Row{{4, 0, 4, 7}, {5, 0, 0, 8}, {6, 0, 5, 9}}, "4 place0 ?\n5 place0 empty\n6 place0 ?\n"},
	} {
		if got := survey.Text(x.l); got != x.want {
			t.Errorf("%+v:\n%q\nnot\n%q", x.l, got, x.want)
		}
	}
}

// Rows by chance, of numbers near each other and far out (P34.1).
func TestTextByChance(t *testing.T) {
	c := rand.New(rand.NewSource(1))
	for range 3000 {
		var l []survey.Row
		r := survey.Row{}
		for range c.Intn(12) {
			r.Block++
			switch c.Intn(5) {
			case 0:
				r.Block = far[c.Intn(len(far))]
			case 1:
				r.Place = far[c.Intn(len(far))]
			case 2:
				r.Kind = c.Intn(7) - 1
			case 3:
				r.Kind, r.Record = 0, far[c.Intn(len(far))]
			}
			l = append(l, r)
		}
		if got, want := survey.Text(l), textOf(l); got != want {
			t.Fatalf("%+v:\n%q\nnot\n%q", l, got, want)
		}
		var places []int
		for _, r := range l {
			if r.Place > -1 && r.Kind != 0 && !slices.Contains(places, r.Place) {
				places = append(places, r.Place)
			}
		}
		slices.Sort(places)
		if got := survey.Foul(l); said(got) != said(places) {
			t.Fatalf("%+v: %v, not %v", l, got, places)
		}
	}
}
