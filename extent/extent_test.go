package extent_test

import (
	"math"
	"math/rand"
	"slices"
	"testing"

	"custumal/api"
	"custumal/disk"
	"custumal/extent"
)

// nought and bytes at a block's ends: each alone makes a block that isn't of noughts.
func blockOf(n int) disk.Block {
	var b disk.Block
	b[n%api.Block] = byte(n%255 + 1)
	return b
}

// filled: a disk of whose blocks none is of noughts, and all last.
func filled(t *testing.T, blocks int) *disk.Disk {
	t.Helper()
	d, err := disk.New(blocks)
	if err != api.OK {
		t.Fatal(err)
	}
	for i := range blocks {
		d.Write(i, blockOf(i))
	}
	d.Sync()
	return d
}

func made(t *testing.T, d *disk.Disk, first, count, size int) *extent.Extents {
	t.Helper()
	x, err := extent.New(d, first, count, size)
	if err != api.OK || x == nil {
		t.Fatalf("New(%d, %d, %d): %v", first, count, size, err)
	}
	return x
}

func blocksOf(t *testing.T, d *disk.Disk) (all []disk.Block) {
	t.Helper()
	for i := range d.Size() {
		b, err := d.Read(i)
		if err != api.OK {
			t.Fatal(err)
		}
		all = append(all, b)
	}
	return all
}

func expectFoul(t *testing.T, why string, x *extent.Extents, want ...int) {
	t.Helper()
	if got, err := x.Foul(); err != api.OK || !slices.Equal(got, want) {
		t.Errorf("%s: Foul %v, %v; not %v", why, got, err, want)
	}
	for i := range x.Count() {
		if clear, err := x.Clear(i); err != api.OK || clear == slices.Contains(want, i) {
			t.Errorf("%s: Clear(%d) %v, %v", why, i, clear, err)
		}
	}
}

// wrong: numbers that no extent has, where there are so many.
func wrong(count int) []int { return []int{-1, count, count + 1, math.MinInt, math.MaxInt} }

// Which extents may be: of one block, of all that a disk may have, and of none (P12.1).
func TestNew(t *testing.T) {
	d, big := filled(t, 20), filled(t, api.MaxBlocks)
	off := filled(t, 20)
	off.Arm(1)
	off.Write(0, blockOf(0))
	var none *disk.Disk
	for _, c := range []struct {
		d                  *disk.Disk
		first, count, size int
		want               api.Errno
	}{
		{d, 0, 1, 1, api.OK}, {d, 19, 1, 1, api.OK}, {d, 0, 20, 1, api.OK}, {d, 0, 1, 20, api.OK}, {d, 0, 4, 5, api.OK}, {d, 2, 3, 6, api.OK},
		{d, 5, 2, 7, api.OK}, {big, 0, 8, 1024, api.OK}, {big, 0, 1, 8192, api.OK}, {big, 0, 8192, 1, api.OK}, {off, 2, 3, 6, api.OK},
		{d, 20, 1, 1, api.ErrArg}, {d, 0, 21, 1, api.ErrArg}, {d, 0, 1, 21, api.ErrArg}, {d, 0, 3, 7, api.ErrArg}, {d, 3, 3, 6, api.ErrArg},
		{d, 6, 5, 3, api.ErrArg}, {d, 19, 2, 1, api.ErrArg}, {d, 19, 1, 2, api.ErrArg}, {d, 21, 1, 1, api.ErrArg}, {d, 21, 3, 1, api.ErrArg},
		{d, 0, 0, 1, api.ErrArg}, {d, 0, 1, 0, api.ErrArg}, {d, 0, 0, 0, api.ErrArg}, {d, 0, -1, 1, api.ErrArg}, {d, 0, 1, -1, api.ErrArg},
		{d, 0, -1, -1, api.ErrArg}, {d, 0, -2, 5, api.ErrArg}, {d, -1, 1, 1, api.ErrArg}, {d, -1, 3, 7, api.ErrArg},
		{d, 0, 1 << 32, 1 << 32, api.ErrArg}, {d, 0, 1 << 62, 4, api.ErrArg}, {d, 0, 4, 1 << 62, api.ErrArg}, {d, 0, math.MaxInt, math.MaxInt, api.ErrArg},
		{d, math.MaxInt, 1, 1, api.ErrArg}, {d, math.MaxInt, math.MaxInt, 1, api.ErrArg}, {d, math.MinInt, 1, 1, api.ErrArg},
		{d, math.MinInt, 1, math.MaxInt, api.ErrArg}, {d, 0, math.MinInt, 1, api.ErrArg}, {d, 0, 1, math.MinInt, api.ErrArg},
		{d, 0, math.MinInt, math.MinInt, api.ErrArg}, {none, 0, 1, 1, api.ErrArg}, {&disk.Disk{}, 0, 1, 1, api.ErrArg}, {off, 0, 3, 7, api.ErrArg},
	} {
		x, err := extent.New(c.d, c.first, c.count, c.size)
		if err != c.want || (x == nil) == (c.want == api.OK) {
			t.Errorf("%d, %d, %d: %v, %v", c.first, c.count, c.size, x, err)
		}
		if x != nil {
			expectPlaces(t, x, c.first, c.count, c.size, c.d.Size())
		}
	}
	if d.Writes() != 20 {
		t.Error("New writes")
	}
}

// expectPlaces: where each extent is, and in which each block is.
func expectPlaces(t *testing.T, x *extent.Extents, first, count, size, blocks int) {
	t.Helper()
	if x.Count() != count {
		t.Errorf("Count %d, not %d", x.Count(), count)
	}
	in := map[int]int{}
	for i := range count {
		from, has, err := x.Area(i)
		if err != api.OK || from != first+i*size || has != size {
			t.Errorf("Area(%d) of %d, %d, %d: %d, %d, %v", i, first, count, size, from, has, err)
		}
		for block := from; block < from+size; block++ {
			in[block] = i + 1
		}
	}
	for block := -3; block < blocks+3; block++ {
		if got := x.Of(block); got != in[block]-1 {
			t.Errorf("Of(%d) of %d, %d, %d: %d", block, first, count, size, got)
		}
	}
	for _, i := range wrong(count) {
		if from, has, err := x.Area(i); err != api.ErrArg || from != 0 || has != 0 {
			t.Errorf("Area(%d): %d, %d, %v", i, from, has, err)
		}
	}
	for _, block := range []int{math.MinInt, math.MinInt + 1, math.MaxInt, -1 << 62, 1 << 62} {
		if got := x.Of(block); got != -1 {
			t.Errorf("Of(%d): %d", block, got)
		}
	}
}

// The document's example (P12.1).
func TestExample(t *testing.T) {
	x := made(t, filled(t, 22), 10, 3, 4)
	first, size, err := x.Area(1)
	if first != 14 || size != 4 || err != api.OK || x.Of(17) != 1 {
		t.Errorf("%d, %d, %v, %d", first, size, err, x.Of(17))
	}
}

// An extent is of noughts behind a Zero that was answered, and that lasts; no other block is touched (P12.1, P12.2).
func TestZero(t *testing.T) {
	for _, c := range []struct{ blocks, first, count, size int }{{1, 0, 1, 1}, {20, 0, 20, 1}, {20, 3, 4, 4}, {20, 5, 1, 9}, {8192, 1, 3, 2730}} {
		d := filled(t, c.blocks)
		x := made(t, d, c.first, c.count, c.size)
		want := blocksOf(t, d)
		for i := c.count - 1; i >= 0; i-- {
			writes := d.Writes()
			if err := x.Zero(i); err != api.OK {
				t.Fatalf("Zero(%d): %v", i, err)
			}
			clear(want[c.first+i*c.size:][:c.size])
			if d.Waiting() != 0 || d.Writes() != writes+c.size {
				t.Errorf("Zero(%d) of %v: %d wait, %d writes", i, c, d.Waiting(), d.Writes()-writes)
			}
			d.Crash(nil)
			if !slices.Equal(blocksOf(t, d), want) {
				t.Errorf("Zero(%d) of %v: other blocks", i, c)
			}
		}
		expectFoul(t, "all zeroed", x)
	}
}

// Those blocks that aren't of noughts are written, rising, and no others; a Sync there is all the same (P12.1).
func TestZeroWritesWhatItMust(t *testing.T) {
	for picked := range 1 << 4 {
		d, _ := disk.New(8)
		x := made(t, d, 2, 1, 4)
		var foul []int
		for i := range 4 {
			if picked>>i&1 == 1 {
				d.Write(2+i, blockOf(127*i))
				foul = append(foul, 2+i)
			}
		}
		d.Sync()
		d.Write(0, blockOf(5))
		writes := d.Writes()
		// Cut off at each write, with all that waits kept: those up to it are noughts.
		for n := range foul {
			d.Arm(n + 1)
			if err := x.Zero(0); err != api.ErrDown || d.Waiting() != 1+n+1 {
				t.Fatalf("cut off at write %d: %v, %d wait", n, err, d.Waiting())
			}
			d.Crash(slices.Repeat([]bool{true}, n+2))
			for k, block := range foul {
				if b, _ := d.Read(block); (b == disk.Block{}) != (k <= n) {
					t.Errorf("cut off at write %d: block %d is %x", n, block, b)
				}
			}
			for _, block := range foul {
				d.Write(block, blockOf(block))
			}
			d.Sync()
			d.Write(0, blockOf(5))
			writes = d.Writes()
		}
		if err := x.Zero(0); err != api.OK || d.Writes() != writes+len(foul) || d.Waiting() != 0 {
			t.Errorf("%v: %v, %d writes, %d wait", foul, err, d.Writes()-writes, d.Waiting())
		}
		d.Crash(nil)
		if b, _ := d.Read(0); b != blockOf(5) {
			t.Error("no Sync")
		}
	}
}

// Noughts that were written, but don't last yet, do behind a Zero (P12.2).
func TestZeroOverWhatWaits(t *testing.T) {
	d := filled(t, 6)
	x := made(t, d, 0, 2, 3)
	for i := range 3 {
		d.Write(i, disk.Block{})
	}
	writes := d.Writes()
	if err := x.Zero(0); err != api.OK || d.Writes() != writes {
		t.Errorf("%v, %d writes", err, d.Writes()-writes)
	}
	d.Crash(nil)
	expectFoul(t, "behind a crash", x, 1)
}

// A Zero that is cut off, with whatever is kept: no other extent's blocks are touched, and another Zero does it (P12.2).
func TestZeroCutOff(t *testing.T) {
	const size = 4
	for i := range 3 {
		for n := 1; n <= size; n++ {
			for picked := range 1 << n {
				d := filled(t, 16)
				x := made(t, d, 2, 3, size)
				want := blocksOf(t, d)
				d.Arm(n)
				if err := x.Zero(i); err != api.ErrDown || !d.Down() {
					t.Fatalf("cut off at write %d: %v", n, err)
				}
				keep := make([]bool, n)
				for k := range keep {
					if keep[k] = picked>>k&1 == 1; keep[k] {
						want[2+i*size+k] = disk.Block{}
					}
				}
				d.Crash(keep)
				if !slices.Equal(blocksOf(t, d), want) {
					t.Fatalf("cut off at write %d: other blocks", n)
				}
				if n < size || picked != 1<<size-1 {
					expectFoul(t, "cut off", x, 0, 1, 2)
				}
				if err := x.Zero(i); err != api.OK {
					t.Fatal(err)
				}
				d.Crash(nil)
				clear(want[2+i*size:][:size])
				if !slices.Equal(blocksOf(t, d), want) {
					t.Fatalf("done again behind write %d: other blocks", n)
				}
			}
		}
	}
}

// One byte anywhere in an extent makes it foul, and no other one; blocks ahead of and behind all extents make none (P12.1).
func TestClearAndFoul(t *testing.T) {
	for block := range 16 {
		for _, at := range []int{0, 1, 64, 127} {
			d, _ := disk.New(16)
			x := made(t, d, 3, 3, 4)
			expectFoul(t, "new", x)
			d.Write(block, blockOf(at))
			var want []int
			if block >= 3 && block < 15 {
				want = []int{(block - 3) / 4}
			}
			expectFoul(t, "one byte", x, want...)
			d.Crash(nil)
			expectFoul(t, "lost", x)
		}
	}
	for picked := range 1 << 5 {
		d, _ := disk.New(12)
		x := made(t, d, 1, 5, 2)
		var want []int
		for i := range 5 {
			if picked>>i&1 == 1 {
				d.Write(2+2*i, blockOf(picked))
				want = append(want, i)
			}
		}
		writes := d.Writes()
		expectFoul(t, "some", x, want...)
		if d.Writes() != writes || d.Waiting() != writes {
			t.Error("it writes")
		}
	}
}

// Extents that aren't there, ahead of ErrDown too; and calls while the power is off (P12.1; rule 1).
func TestErrors(t *testing.T) {
	d := filled(t, 12)
	x := made(t, d, 0, 3, 4)
	x.Zero(1)
	before, writes := blocksOf(t, d), d.Writes()
	refused := func() {
		t.Helper()
		for _, i := range wrong(3) {
			if err := x.Zero(i); err != api.ErrArg {
				t.Errorf("Zero(%d): %v", i, err)
			}
			if clear, err := x.Clear(i); err != api.ErrArg || clear {
				t.Errorf("Clear(%d): %v, %v", i, clear, err)
			}
		}
	}
	refused()
	if !slices.Equal(blocksOf(t, d), before) || d.Writes() != writes {
		t.Error("changed by a call that refused")
	}
	d.Arm(1)
	d.Write(0, blockOf(0))
	refused()
	for i := range 3 {
		if err := x.Zero(i); err != api.ErrDown {
			t.Errorf("off: Zero(%d): %v", i, err)
		}
		if clear, err := x.Clear(i); err != api.ErrDown || clear {
			t.Errorf("off: Clear(%d): %v, %v", i, clear, err)
		}
	}
	if foul, err := x.Foul(); err != api.ErrDown || foul != nil {
		t.Errorf("off: Foul: %v, %v", foul, err)
	}
	expectPlaces(t, x, 0, 3, 4, 12)
	d.Crash(nil)
	if !slices.Equal(blocksOf(t, d), before) {
		t.Error("changed while the power was off")
	}
	expectFoul(t, "on again", x, 0, 2)
}

// Extents of one disk are what the disk is now, whoever writes (rule 5); two of them don't share.
func TestSideBySide(t *testing.T) {
	d := filled(t, 20)
	a, b := made(t, d, 0, 2, 5), made(t, d, 10, 5, 2)
	if a.Zero(1) != api.OK || b.Zero(3) != api.OK {
		t.Fatal("zero")
	}
	expectFoul(t, "a", a, 0)
	expectFoul(t, "b", b, 0, 1, 2, 4)
	d.Write(7, blockOf(7))
	expectFoul(t, "a", a, 0, 1)
	first, _ := a.Foul()
	first = append(first, 99)
	clear(first)
	expectFoul(t, "a", a, 0, 1)
}

// Crashes by chance: what was zeroed stays so till it is written (P12.2).
func TestByChance(t *testing.T) {
	for seed := range int64(200) {
		r := rand.New(rand.NewSource(seed))
		d := filled(t, 18)
		x := made(t, d, 1, 4, 4)
		zeroed := map[int]int{}
		for range 30 {
			i := r.Intn(4)
			d.Arm(1 + r.Intn(12))
			if r.Intn(3) == 0 {
				zeroed[i] = 0
				d.Write(1+4*i+r.Intn(4), blockOf(r.Intn(1000)))
			} else if x.Zero(i) == api.OK {
				zeroed[i] = 1
			}
			if d.Down() || r.Intn(4) == 0 {
				d.Crash([]bool{r.Intn(2) == 0, r.Intn(2) == 0, r.Intn(2) == 0, r.Intn(2) == 0})
			}
			for i := range 4 {
				if clear, err := x.Clear(i); zeroed[i] == 1 && (!clear || err != api.OK) {
					t.Fatalf("seed %d: Clear(%d): %v, %v", seed, i, clear, err)
				}
			}
		}
		for _, block := range []int{0, 17} {
			if b, _ := d.Read(block); b != blockOf(block) {
				t.Fatalf("seed %d: block %d: %x", seed, block, b)
			}
		}
	}
}

// Nil extents; and some that New didn't make: there are none (P1, P12.1).
func TestNoExtents(t *testing.T) {
	var none *extent.Extents
	if foul, err := none.Foul(); err != api.ErrArg || foul != nil {
		t.Errorf("nil: Foul: %v, %v", foul, err)
	}
	zero := &extent.Extents{}
	if foul, err := zero.Foul(); err != api.OK || foul != nil {
		t.Errorf("zero: Foul: %v, %v", foul, err)
	}
	for _, x := range []*extent.Extents{none, zero} {
		expectPlaces(t, x, 0, 0, 0, 1)
		for _, i := range append(wrong(0), 1, 7) {
			if clear, err := x.Clear(i); err != api.ErrArg || clear {
				t.Errorf("Clear(%d): %v, %v", i, clear, err)
			}
			if err := x.Zero(i); err != api.ErrArg {
				t.Errorf("Zero(%d): %v", i, err)
			}
		}
	}
}
