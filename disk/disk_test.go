package disk_test

import (
	"math"
	"math/rand"
	"slices"
	"testing"

	"custumal/api"
	"custumal/disk"
)

// filled: a block of these bytes alone.
func filled(n byte) disk.Block {
	var b disk.Block
	for i := range b {
		b[i] = n
	}
	return b
}

func made(t *testing.T, blocks int) *disk.Disk {
	t.Helper()
	d, err := disk.New(blocks)
	if err != api.OK || d == nil {
		t.Fatalf("%d blocks: %v", blocks, err)
	}
	return d
}

// written: that the writes are taken, of the n-th byte each, at these places.
func written(t *testing.T, d *disk.Disk, from byte, places ...int) {
	t.Helper()
	for i, place := range places {
		if err := d.Write(place, filled(from+byte(i))); err != api.OK {
			t.Fatalf("write %d at %d: %v", i, place, err)
		}
	}
}

func synced(t *testing.T, d *disk.Disk) {
	t.Helper()
	if err := d.Sync(); err != api.OK {
		t.Fatalf("sync: %v", err)
	}
}

// bytesOf: each block's byte; that each is of one byte wholly is looked at too.
func bytesOf(t *testing.T, d *disk.Disk) (all []byte) {
	t.Helper()
	for i := range d.Size() {
		b, err := d.Read(i)
		if err != api.OK || b != filled(b[0]) {
			t.Fatalf("block %d: %v, %x", i, err, b)
		}
		all = append(all, b[0])
	}
	return all
}

func expectBytes(t *testing.T, why string, d *disk.Disk, want ...byte) {
	t.Helper()
	if got := bytesOf(t, d); !slices.Equal(got, want) {
		t.Errorf("%s: %d, not %d", why, got, want)
	}
}

func expectCounts(t *testing.T, why string, d *disk.Disk, writes, waiting int) {
	t.Helper()
	if d.Writes() != writes || d.Waiting() != waiting {
		t.Errorf("%s: %d writes, %d wait; not %d, %d", why, d.Writes(), d.Waiting(), writes, waiting)
	}
}

// expectOff: all calls that may not be made answer ErrDown, ahead of ErrArg, and the block is nothing then.
func expectOff(t *testing.T, why string, d *disk.Disk) {
	t.Helper()
	if !d.Down() {
		t.Errorf("%s: the power is on", why)
	}
	for _, i := range []int{0, -1, d.Size(), math.MaxInt, math.MinInt} {
		if b, err := d.Read(i); err != api.ErrDown || b != (disk.Block{}) {
			t.Errorf("%s: Read(%d): %v, %x", why, i, err, b)
		}
		if err := d.Write(i, filled(99)); err != api.ErrDown {
			t.Errorf("%s: Write(%d): %v", why, i, err)
		}
	}
	if err := d.Sync(); err != api.ErrDown {
		t.Errorf("%s: Sync: %v", why, err)
	}
}

// Disks of one block and of the most, and of no count that may be (P10.1).
func TestNew(t *testing.T) {
	for _, blocks := range []int{1, 2, 100, api.MaxBlocks - 1, api.MaxBlocks} {
		d := made(t, blocks)
		if d.Size() != blocks || d.Down() {
			t.Errorf("%d blocks: Size %d, Down %v", blocks, d.Size(), d.Down())
		}
		expectCounts(t, "new", d, 0, 0)
		if slices.Max(bytesOf(t, d)) != 0 {
			t.Errorf("%d blocks: not of noughts", blocks)
		}
	}
	for _, blocks := range []int{0, -1, api.MaxBlocks + 1, math.MinInt, math.MaxInt} {
		if d, err := disk.New(blocks); err != api.ErrArg || d != nil {
			t.Errorf("%d blocks: %v, %v", blocks, d, err)
		}
	}
}

// A block has what was written there last, and no other one has it; blocks that aren't there refuse, and change nothing (P10.1).
func TestReadAndWrite(t *testing.T) {
	for _, blocks := range []int{1, 3, api.MaxBlocks} {
		d := made(t, blocks)
		last := blocks - 1
		written(t, d, 1, 0, last, last)
		want := make([]byte, blocks)
		want[0], want[last] = 1, 3
		expectBytes(t, "written", d, want...)
		for _, i := range []int{-1, blocks, blocks + 1, math.MinInt, math.MaxInt} {
			if b, err := d.Read(i); err != api.ErrArg || b != (disk.Block{}) {
				t.Errorf("Read(%d) of %d: %v, %x", i, blocks, err, b)
			}
			if err := d.Write(i, filled(9)); err != api.ErrArg {
				t.Errorf("Write(%d) of %d: %v", i, blocks, err)
			}
		}
		expectBytes(t, "refused", d, want...)
		expectCounts(t, "refused", d, 3, 3)
		synced(t, d)
		expectBytes(t, "synced", d, want...)
		expectCounts(t, "synced", d, 3, 0)
	}
}

// All bytes of a block are kept, each in its place (P10.1).
func TestWholeBlocks(t *testing.T) {
	d := made(t, 2)
	var b disk.Block
	for i := range b {
		b[i] = byte(i + 1)
	}
	d.Write(1, b)
	for range 2 {
		if got, err := d.Read(1); err != api.OK || got != b {
			t.Errorf("%v, %x", err, got)
		}
		d.Crash([]bool{true})
	}
}

// The document's example (P10.1).
func TestExample(t *testing.T) {
	d := made(t, 2)
	written(t, d, 1, 0)
	synced(t, d)
	written(t, d, 2, 0, 1)
	d.Crash([]bool{false, true})
	expectBytes(t, "a, c", d, 1, 3)
}

// All ways in which a crash may keep some of up to five writes, two places being written more than once, with fewer answers than writes, as many, and more (P10.1).
func TestCrashKeeps(t *testing.T) {
	places := []int{1, 0, 1, 2, 1}
	for count := range len(places) + 1 {
		for answers := range count + 3 {
			for picked := range 1 << answers {
				d := made(t, 4)
				written(t, d, 101, 0, 1, 2, 3)
				synced(t, d)
				written(t, d, 1, places[:count]...)
				want, keep := []byte{101, 102, 103, 104}, make([]bool, answers)
				for k := range keep {
					keep[k] = picked>>k&1 == 1
					if keep[k] && k < count {
						want[places[k]] = byte(k + 1)
					}
				}
				before := slices.Clone(keep)
				d.Crash(keep)
				expectBytes(t, "kept", d, want...)
				expectCounts(t, "behind a crash", d, 4+count, 0)
				if d.Down() || !slices.Equal(keep, before) {
					t.Errorf("Down %v; keep is %v, and was %v", d.Down(), keep, before)
				}
				// What there is lasts: no more is lost, none comes again.
				clear(keep)
				d.Crash([]bool{true, true, true, true, true})
				d.Crash(nil)
				expectBytes(t, "crashed again", d, want...)
			}
		}
	}
}

// A Sync makes all writes last, whatever a crash keeps; those behind it wait alone, and are counted in keep from 0 on (P10.1, P10.2).
func TestSyncIsABarrier(t *testing.T) {
	for synced1 := range 4 {
		d := made(t, 3)
		written(t, d, 1, []int{0, 1, 0}[:synced1]...)
		synced(t, d)
		synced(t, d)
		want := bytesOf(t, d)
		written(t, d, 11, 2, 0)
		expectCounts(t, "behind a sync", d, synced1+2, 2)
		d.Crash([]bool{false, true})
		want[0] = 12
		expectBytes(t, "behind a sync", d, want...)
	}
}

// What was written is read, though it doesn't last; what lasts changes by Sync and Crash alone, whatever else is called (P10.2).
func TestWhatLasts(t *testing.T) {
	others := func(d *disk.Disk) {
		written(t, d, 1, 0, 1, 2, 0)
		d.Write(-1, filled(8))
		d.Write(3, filled(8))
		d.Read(0)
		d.Size()
		d.Down()
		d.Writes()
		d.Waiting()
		d.Arm(0)
		d.Arm(2)
	}
	d := made(t, 3)
	others(d)
	expectBytes(t, "ahead of a sync", d, 4, 2, 3)
	d.Crash(nil)
	expectBytes(t, "nothing lasts", d, 0, 0, 0)
	written(t, d, 51, 0, 1, 2)
	synced(t, d)
	others(d)
	d.Write(0, filled(9))
	d.Write(1, filled(9)) // the power goes off here
	expectOff(t, "armed", d)
	d.Crash(nil)
	expectBytes(t, "only what was synced", d, 51, 52, 53)
}

// The power goes off at the n-th write: behind it, so that a crash may keep it, and none of those that are refused then (P10.1).
func TestPowerGoesOff(t *testing.T) {
	for n := 1; n <= 6; n++ {
		for kept := range 1 << n {
			d := made(t, 8)
			d.Arm(n)
			for i := range n {
				want := api.OK
				if i == n-1 {
					want = api.ErrDown
				}
				if d.Down() {
					t.Fatalf("Arm(%d): off ahead of write %d", n, i)
				}
				if err := d.Write(i, filled(byte(i+1))); err != want {
					t.Fatalf("Arm(%d): write %d: %v", n, i, err)
				}
			}
			expectOff(t, "off", d)
			if d.Size() != 8 {
				t.Errorf("Size %d", d.Size())
			}
			expectCounts(t, "off", d, n, n)
			keep, want := make([]bool, n+2), make([]byte, 8)
			for k := range n {
				if kept>>k&1 == 1 {
					keep[k], want[k] = true, byte(k+1)
				}
			}
			keep[n], keep[n+1] = true, true
			d.Crash(keep)
			if d.Down() {
				t.Error("off behind a crash")
			}
			expectBytes(t, "on again", d, want...)
			expectCounts(t, "on again", d, n, 0)
		}
	}
}

// The n-th write from now on: a Sync between changes nothing of the count, nor do reads, nor writes that are refused; a new Arm counts anew (P10.1).
func TestArmCounts(t *testing.T) {
	d := made(t, 3)
	written(t, d, 1, 0, 1)
	d.Arm(3)
	written(t, d, 3, 2)
	synced(t, d)
	d.Read(0)
	d.Read(3)
	d.Write(3, filled(9))
	d.Write(-1, filled(9))
	written(t, d, 4, 0)
	d.Arm(2)
	written(t, d, 5, 1)
	expectCounts(t, "ahead", d, 5, 2)
	if err := d.Write(2, filled(6)); err != api.ErrDown {
		t.Errorf("the second write: %v", err)
	}
	expectCounts(t, "behind", d, 6, 3)
	expectOff(t, "behind", d)
	d.Crash([]bool{false, true, true})
	expectBytes(t, "behind", d, 1, 5, 6)
}

// An Arm below 1 means none; a crash forgets it, whether the power is on or off; the greatest never comes about (P10.1).
func TestArmForgotten(t *testing.T) {
	d := made(t, 1)
	ten := make([]int, 10)
	for _, n := range []int{0, -1, math.MinInt, math.MaxInt} {
		d.Arm(1)
		d.Arm(n)
		written(t, d, 1, ten...)
	}
	d.Arm(2)
	d.Crash(nil)
	written(t, d, 1, ten...)
	d.Arm(1)
	d.Write(0, filled(1))
	d.Arm(0)
	expectOff(t, "Arm doesn't bring it back", d)
	d.Arm(3)
	expectOff(t, "Arm doesn't bring it back", d)
	d.Crash(nil)
	written(t, d, 1, ten...)
}

// A crash while the power is on takes likewise (P10.1).
func TestCrashWithThePowerOn(t *testing.T) {
	d := made(t, 2)
	d.Crash(nil)
	d.Crash([]bool{true})
	expectBytes(t, "nothing waits", d, 0, 0)
	written(t, d, 1, 0, 1)
	d.Crash([]bool{true})
	expectBytes(t, "fewer answers", d, 1, 0)
}

// A nil disk, and one that New didn't make: it has no blocks (P1, P10.1).
func TestNoDisk(t *testing.T) {
	var none *disk.Disk
	none.Arm(1)
	none.Crash([]bool{true})
	if none.Size() != 0 || none.Writes() != 0 || none.Waiting() != 0 || !none.Down() || none.Sync() != api.ErrArg {
		t.Error("nil")
	}
	zero := &disk.Disk{}
	zero.Arm(1)
	zero.Crash([]bool{true})
	if zero.Size() != 0 || zero.Writes() != 0 || zero.Waiting() != 0 || zero.Down() || zero.Sync() != api.OK {
		t.Error("zero")
	}
	for _, d := range []*disk.Disk{none, zero} {
		for _, i := range []int{0, -1, 1, math.MaxInt, math.MinInt} {
			if b, err := d.Read(i); err != api.ErrArg || b != (disk.Block{}) {
				t.Errorf("Read(%d): %v, %x", i, err, b)
			}
			if err := d.Write(i, filled(1)); err != api.ErrArg {
				t.Errorf("Write(%d): %v", i, err)
			}
		}
	}
}

// Two disks know nothing of each other (rule 5).
func TestTwoDisks(t *testing.T) {
	a, b := made(t, 2), made(t, 2)
	written(t, a, 1, 0)
	b.Arm(1)
	b.Write(0, filled(7))
	synced(t, a)
	b.Crash([]bool{true})
	expectBytes(t, "a", a, 1, 0)
	expectBytes(t, "b", b, 7, 0)
	expectCounts(t, "a", a, 1, 0)
	expectCounts(t, "b", b, 1, 0)
}

// told is a disk told of by all writes since it was made, each with whether it lasts (1), waits (0), or is lost (-1).
type told struct {
	places, fates []int
	blocks        []byte
	armed         int
	off           bool
}

// at: what a place has, by the writes with at least that fate.
func (m *told) at(place, fate int) byte {
	for k := len(m.places) - 1; k >= 0; k-- {
		if m.places[k] == place && m.fates[k] >= fate {
			return m.blocks[k]
		}
	}
	return 0
}

func (m *told) waiting() (n int) {
	for _, fate := range m.fates {
		if fate == 0 {
			n++
		}
	}
	return n
}

func (m *told) write(place int, b byte) api.Errno {
	if m.off {
		return api.ErrDown
	}
	m.places, m.fates, m.blocks = append(m.places, place), append(m.fates, 0), append(m.blocks, b)
	m.armed--
	m.off = m.armed == 0
	if m.off {
		return api.ErrDown
	}
	return api.OK
}

func (m *told) settle(keep []bool) {
	for k := range m.fates {
		if m.fates[k] != 0 {
			continue
		}
		m.fates[k] = -1
		if len(keep) > 0 {
			if keep[0] {
				m.fates[k] = 1
			}
			keep = keep[1:]
		}
	}
}

// step: one call, picked by chance, of the disk and of what is told of it.
func (m *told) step(t *testing.T, r *rand.Rand, d *disk.Disk) {
	switch r.Intn(12) {
	case 0:
		keep := make([]bool, r.Intn(8))
		for k := range keep {
			keep[k] = r.Intn(2) == 0
		}
		d.Crash(keep)
		m.settle(keep)
		m.armed, m.off = 0, false
	case 1:
		n := r.Intn(7) - 1
		d.Arm(n)
		m.armed = n
	case 2:
		if err := d.Sync(); (err == api.ErrDown) != m.off {
			t.Fatalf("sync: %v", err)
		}
		if !m.off {
			m.settle(slices.Repeat([]bool{true}, len(m.fates)))
		}
	default:
		place, b := r.Intn(d.Size()), byte(r.Intn(256))
		if got, want := d.Write(place, filled(b)), m.write(place, b); got != want {
			t.Fatalf("write: %v, not %v", got, want)
		}
	}
}

// Calls by chance, against a disk told of by its writes (P10.1, P10.2).
func TestByChance(t *testing.T) {
	for seed := range int64(200) {
		r := rand.New(rand.NewSource(seed))
		d, m := made(t, 1+r.Intn(4)), &told{}
		for range 100 {
			m.step(t, r, d)
			if d.Down() != m.off {
				t.Fatalf("seed %d: Down %v", seed, d.Down())
			}
			expectCounts(t, "by chance", d, len(m.places), m.waiting())
			for place := range d.Size() {
				b, err := d.Read(place)
				switch {
				case m.off && (err != api.ErrDown || b != (disk.Block{})):
					t.Fatalf("seed %d: off, but %v, %x", seed, err, b)
				case !m.off && (err != api.OK || b != filled(m.at(place, 0))):
					t.Fatalf("seed %d: block %d: %v, %x", seed, place, err, b)
				}
			}
		}
		d.Crash(nil)
		for place := range d.Size() {
			if b, _ := d.Read(place); b != filled(m.at(place, 1)) {
				t.Fatalf("seed %d: of block %d %x lasts", seed, place, b)
			}
		}
	}
}
