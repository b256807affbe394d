package journal_test

import (
	"bytes"
	"encoding/binary"
	"math"
	"math/rand"
	"slices"
	"testing"

	"custumal/api"
	"custumal/disk"
	"custumal/journal"
)

// text: bytes that differ, none of them a nought, with spare room behind them.
func text(size int) []byte {
	b := make([]byte, size+100)
	rand.New(rand.NewSource(int64(size))).Read(b)
	for i := range b {
		b[i] |= 0x10
	}
	return b[:size]
}

// texts: one of each size.
func texts(sizes ...int) (all [][]byte) {
	for _, size := range sizes {
		all = append(all, text(size))
	}
	return all
}

func disked(t *testing.T, blocks int) *disk.Disk {
	t.Helper()
	d, err := disk.New(blocks)
	if err != api.OK {
		t.Fatal(err)
	}
	return d
}

func opened(t *testing.T, d *disk.Disk, first, size int) (*journal.Journal, [][]byte) {
	t.Helper()
	j, recs, err := journal.Open(d, first, size)
	if err != api.OK || j == nil {
		t.Fatalf("open: %v", err)
	}
	return j, recs
}

// appended: that each record is taken.
func appended(t *testing.T, j *journal.Journal, recs ...[]byte) {
	t.Helper()
	for i, rec := range recs {
		if err := j.Append(rec); err != api.OK {
			t.Fatalf("record %d of %d bytes: %v", i, len(rec), err)
		}
	}
}

func same(a, b [][]byte) bool { return slices.EqualFunc(a, b, bytes.Equal) }

// expectRecords: those that Open tells, and what its journal tells of them.
func expectRecords(t *testing.T, why string, d *disk.Disk, first, size int, want ...[]byte) *journal.Journal {
	t.Helper()
	j, got := opened(t, d, first, size)
	if !same(got, want) {
		t.Fatalf("%s: %d records %.200x, not %d %.200x", why, len(got), got, len(want), want)
	}
	for _, rec := range want {
		size -= journal.Blocks(len(rec))
	}
	expectCounts(t, why, j, len(want), size)
	return j
}

func expectCounts(t *testing.T, why string, j *journal.Journal, length, room int) {
	t.Helper()
	if j.Len() != length || j.Room() != room {
		t.Errorf("%s: Len %d, Room %d; not %d, %d", why, j.Len(), j.Room(), length, room)
	}
}

// laid: the blocks of a record of that number, as the chapter says, put together apart.
func laid(number uint64, rec []byte) (all []disk.Block) {
	start := binary.BigEndian.AppendUint64([]byte{1}, number)
	start = binary.BigEndian.AppendUint16(start, uint16(len(rec)))
	for {
		var b disk.Block
		n := min(len(rec), 117)
		copy(b[:], slices.Concat(start, rec[:n]))
		all, rec = append(all, b), rec[n:]
		if len(rec) == 0 {
			return all
		}
		start = append([]byte{2}, make([]byte, 10)...)
	}
}

// put: blocks that are laid on a disk by hand, and last.
func put(t *testing.T, d *disk.Disk, at int, blocks ...disk.Block) {
	t.Helper()
	for i, b := range blocks {
		if err := d.Write(at+i, b); err != api.OK {
			t.Fatal(err)
		}
	}
	d.Sync()
}

func blocksOf(t *testing.T, d *disk.Disk) (all []disk.Block) {
	t.Helper()
	for i := range d.Size() {
		b, err := d.Read(i)
		if err != api.OK {
			t.Fatal(err)
		}
		all = append(all, b)
	}
	return all
}

// dirty: a disk whose blocks are none of noughts.
func dirty(t *testing.T, blocks int) *disk.Disk {
	t.Helper()
	d := disked(t, blocks)
	for i := range blocks {
		put(t, d, i, disk.Block(slices.Repeat([]byte{byte(i + 3)}, api.Block)))
	}
	return d
}

// How many blocks a record needs, at each edge (P11.1).
func TestBlocks(t *testing.T) {
	if journal.Part != 117 {
		t.Errorf("Part %d", journal.Part)
	}
	for _, c := range []struct{ size, want int }{
		{math.MinInt, 0}, {-117, 0}, {-1, 0}, {0, 1}, {1, 1}, {116, 1}, {117, 1}, {118, 2}, {233, 2}, {234, 2}, {235, 3},
		{65520, 560}, {65521, 561}, {65534, 561}, {65535, 561}, {65536, 0}, {65637, 0}, {1 << 32, 0}, {math.MaxInt, 0},
	} {
		if got := journal.Blocks(c.size); got != c.want {
			t.Errorf("%d bytes: %d blocks", c.size, got)
		}
	}
	for size := 1; size <= 65535; size++ {
		if got := journal.Blocks(size); 117*got < size || 117*(got-1) >= size {
			t.Errorf("%d bytes: %d blocks", size, got)
		}
	}
}

// Blocks that aren't all there, and no disk: ahead of ErrDown too (P11.1).
func TestNoBlocks(t *testing.T) {
	var none *disk.Disk
	d := dirty(t, 10)
	before := blocksOf(t, d)
	off := disked(t, 10)
	off.Arm(1)
	off.Write(0, disk.Block{})
	for _, c := range []struct {
		d           *disk.Disk
		first, size int
	}{
		{none, 0, 1}, {none, 0, 0}, {&disk.Disk{}, 0, 1},
		{d, -1, 1}, {d, -1, 10}, {d, -1, 11}, {d, 0, 0}, {d, 0, -1}, {d, 5, 0}, {d, 10, 0}, {d, 0, 11}, {d, 1, 10}, {d, 9, 2}, {d, 10, 1},
		{d, 11, 1}, {d, 11, -1}, {d, math.MaxInt, math.MaxInt}, {d, 1, math.MaxInt}, {d, math.MaxInt, 1}, {d, 0, math.MinInt},
		{d, math.MinInt, 1}, {d, math.MinInt, math.MinInt}, {d, math.MinInt, math.MaxInt}, {d, math.MaxInt, math.MinInt},
		{off, -1, 1}, {off, 0, 0}, {off, 0, 11},
	} {
		if err := journal.Format(c.d, c.first, c.size); err != api.ErrArg {
			t.Errorf("Format(%d, %d): %v", c.first, c.size, err)
		}
		if j, recs, err := journal.Open(c.d, c.first, c.size); err != api.ErrArg || j != nil || recs != nil {
			t.Errorf("Open(%d, %d): %v, %v, %v", c.first, c.size, j, recs, err)
		}
	}
	if !slices.Equal(blocksOf(t, d), before) {
		t.Error("changed by a call that refused")
	}
	if err := journal.Format(off, 0, 10); err != api.ErrDown {
		t.Errorf("Format, off: %v", err)
	}
	if j, recs, err := journal.Open(off, 0, 10); err != api.ErrDown || j != nil || recs != nil {
		t.Errorf("Open, off: %v, %v, %v", j, recs, err)
	}
}

// All the blocks are noughts and last, and no others are touched: of one block, of some, and of all that a disk may have (P11.1).
func TestFormat(t *testing.T) {
	for _, c := range []struct{ blocks, first, size int }{
		{1, 0, 1}, {6, 0, 6}, {6, 0, 1}, {6, 5, 1}, {6, 2, 3}, {api.MaxBlocks, 0, api.MaxBlocks},
	} {
		d := dirty(t, c.blocks)
		want := blocksOf(t, d)
		clear(want[c.first : c.first+c.size])
		if err := journal.Format(d, c.first, c.size); err != api.OK {
			t.Fatal(err)
		}
		if !slices.Equal(blocksOf(t, d), want) || d.Waiting() != 0 {
			t.Errorf("%v: not as it should be, or it doesn't last", c)
		}
		d.Crash(nil)
		if !slices.Equal(blocksOf(t, d), want) {
			t.Errorf("%v: a crash took of it", c)
		}
		expectRecords(t, "formatted", d, c.first, c.size)
	}
}

// Where noughts were written, but don't last yet, they do behind a Format (P11.1).
func TestFormatOverWhatWaits(t *testing.T) {
	d := dirty(t, 3)
	for i := range 3 {
		d.Write(i, disk.Block{})
	}
	journal.Format(d, 0, 3)
	d.Crash(nil)
	if !slices.Equal(blocksOf(t, d), make([]disk.Block, 3)) {
		t.Error("it doesn't last")
	}
}

// sizes: of records with each count of blocks' edges.
func sizes() []int {
	return []int{0, 1, 116, 117, 118, 233, 234, 235, 350, 351, 352, 1000, 65535, 0, 5}
}

// What stands on the disk, byte by byte, and what is told of it, behind each record (P11.1).
func TestLayout(t *testing.T) {
	d := dirty(t, 650)
	if err := journal.Format(d, 7, 640); err != api.OK {
		t.Fatal(err)
	}
	want := blocksOf(t, d)
	j := expectRecords(t, "new", d, 7, 640)
	at, recs := 7, texts(sizes()...)
	for i, rec := range recs {
		appended(t, j, rec)
		at += copy(want[at:], laid(uint64(i), rec))
		expectCounts(t, "appended", j, i+1, 647-at)
		if got := blocksOf(t, d); !slices.Equal(got, want) || d.Waiting() != 0 {
			t.Fatalf("record %d of %d bytes: not as the chapter says, or %d writes wait", i, len(rec), d.Waiting())
		}
		expectRecords(t, "opened", d, 7, 640, recs[:i+1]...)
	}
	d.Crash(nil)
	expectRecords(t, "behind a crash", d, 7, 640, recs...)
}

// The document's example (P11.1).
func TestExample(t *testing.T) {
	d := disked(t, 5)
	j := expectRecords(t, "new", d, 0, 5)
	appended(t, j, text(118))
	expectCounts(t, "118 bytes", j, 1, 3)
}

// The highest byte of a number first, where it has more than one; as many records as a disk has blocks (P11.1).
func TestManyRecords(t *testing.T) {
	d := disked(t, api.MaxBlocks)
	j := expectRecords(t, "new", d, 0, api.MaxBlocks)
	var recs [][]byte
	for i := range api.MaxBlocks {
		recs = append(recs, []byte{byte(i), byte(i >> 8)})
	}
	appended(t, j, recs...)
	expectCounts(t, "full", j, api.MaxBlocks, 0)
	for _, i := range []int{0, 1, 255, 256, 257, 511, 4096, api.MaxBlocks - 1} {
		if b, _ := d.Read(i); b != laid(uint64(i), recs[i])[0] {
			t.Errorf("record %d: %x", i, b)
		}
	}
	j = expectRecords(t, "full", d, 0, api.MaxBlocks, recs...)
	if err := j.Append(nil); err != api.ErrFull {
		t.Errorf("one more: %v", err)
	}
}

// A journal that was opened goes on where it stands, as the one that wrote does (P11.1).
func TestOpenGoesOn(t *testing.T) {
	d := disked(t, 60)
	recs := texts(sizes()[:12]...)
	for i, rec := range recs {
		appended(t, expectRecords(t, "so far", d, 20, 40, recs[:i]...), rec)
	}
	expectRecords(t, "all", d, 20, 40, recs...)
}

// A record that has just room, one that hasn't, and one that has more bytes than may be; what is refused changes nothing (P11.1).
func TestRoom(t *testing.T) {
	for _, c := range []struct{ blocks, before, size int }{
		{1, -1, 0}, {1, -1, 117}, {1, -1, 118}, {2, -1, 118}, {2, -1, 234}, {2, -1, 235}, {2, 1, 117}, {2, 1, 118}, {2, 118, 0}, {5, 118, 351},
		{5, 118, 352}, {560, -1, 65520}, {560, -1, 65521}, {560, -1, 65535}, {561, -1, 65535}, {562, 9, 65535}, {562, 118, 65535},
		{1, -1, 65536}, {600, -1, 65536}, {600, 3, 1 << 20}, {1, 0, 65536},
	} {
		d := disked(t, c.blocks+2)
		j, _ := opened(t, d, 1, c.blocks)
		var recs [][]byte
		if c.before >= 0 {
			recs = texts(c.before)
			appended(t, j, recs...)
		}
		want, room, rec := api.OK, j.Room(), text(c.size)
		if (c.size+116)/117 > room || room == 0 {
			want = api.ErrFull
		}
		if c.size > 65535 {
			want = api.ErrBig
		}
		before := blocksOf(t, d)
		if err := j.Append(rec); err != want {
			t.Errorf("%v: %v, not %v", c, err, want)
		}
		if want == api.OK {
			expectRecords(t, "taken", d, 1, c.blocks, append(recs, rec)...)
			continue
		}
		expectCounts(t, "refused", j, len(recs), room)
		if !slices.Equal(blocksOf(t, d), before) {
			t.Errorf("%v: changed by a call that refused", c)
		}
		if room > 0 {
			rec = text(min(117*room, 65535))
			appended(t, j, rec)
			expectRecords(t, "one that has room", d, 1, c.blocks, append(recs, rec)...)
		}
	}
}

// The first error that applies: ErrBig, ErrFull, ErrDown (P11.1; rule 1).
func TestOrderOfErrors(t *testing.T) {
	d := disked(t, 2)
	j, _ := opened(t, d, 0, 2)
	d.Arm(1)
	for range 2 {
		for _, c := range []struct {
			size int
			want api.Errno
		}{{65536, api.ErrBig}, {235, api.ErrFull}, {65535, api.ErrFull}, {1, api.ErrDown}, {234, api.ErrDown}} {
			if err := j.Append(text(c.size)); err != c.want {
				t.Errorf("%d bytes: %v, not %v", c.size, err, c.want)
			}
			d.Write(0, disk.Block{}) // the power goes off here
		}
		// Behind a crash too: an Append that was answered ErrDown leaves nothing of use but Open.
		d.Crash(nil)
	}
	expectCounts(t, "nothing was taken", j, 0, 2)
}

// The order of the writes, and where the barriers stand: what waits, and is lost, when the power goes off at each (P11.1).
func TestOrderOfWrites(t *testing.T) {
	for _, size := range []int{0, 117, 118, 235, 600} {
		blocks := laid(1, text(size))
		for n := 1; n <= len(blocks); n++ {
			d := disked(t, 20)
			j, _ := opened(t, d, 2, 10)
			appended(t, j, text(3))
			d.Write(0, disk.Block{7}) // it waits: so a Sync is seen
			want := blocksOf(t, d)
			d.Arm(n)
			if err := j.Append(text(size)); err != api.ErrDown {
				t.Errorf("%d bytes, off at write %d: %v", size, n, err)
			}
			expectCounts(t, "off", j, 1, 9)
			waiting := n + 1
			if n > 1 && n == len(blocks) {
				waiting = 1
			}
			if d.Waiting() != waiting {
				t.Errorf("%d bytes, off at write %d: %d wait", size, n, d.Waiting())
			}
			d.Crash(slices.Repeat([]bool{true}, n+1))
			copy(want[4:], blocks[1:min(n+1, len(blocks))])
			if n == len(blocks) {
				want[3] = blocks[0]
			}
			if !slices.Equal(blocksOf(t, d), want) {
				t.Errorf("%d bytes, off at write %d: other blocks", size, n)
			}
		}
	}
}

// crashes: calls do for each write at which the power may go off in an Append of rec, and for each pick of what is kept, on disks that prepare makes.
func crashes(t *testing.T, first, size int, rec []byte, prepare func() *disk.Disk, do func(d *disk.Disk, whole bool)) {
	t.Helper()
	count := journal.Blocks(len(rec))
	for n := 1; n <= count; n++ {
		picks := n
		if n == count {
			picks = 1
		}
		for picked := range 1 << picks {
			d := prepare()
			j, _ := opened(t, d, first, size)
			d.Arm(n)
			if err := j.Append(rec); err != api.ErrDown {
				t.Fatalf("off at write %d: %v", n, err)
			}
			keep := make([]bool, picks)
			for k := range keep {
				keep[k] = picked>>k&1 == 1
			}
			d.Crash(keep)
			if err := j.Append(nil); err != api.ErrDown {
				t.Fatalf("of use behind ErrDown: %v", err)
			}
			do(d, n == count && keep[0])
		}
	}
}

// nasty: records whose bytes look like blocks of a journal, wherever they are cut.
func nasty() (all [][]byte) {
	whole := func(blocks []disk.Block) (b []byte) {
		for _, block := range blocks {
			b = append(b, block[:]...)
		}
		return b
	}
	head := func(n uint64) []byte { return whole(laid(n, []byte("false"))) }
	for _, n := range []uint64{0, 1, 2, 3} {
		all = append(all,
			head(n)[:117],
			slices.Concat(make([]byte, 117), head(n)[:117]),
			slices.Concat(make([]byte, 106), head(n), head(n + 1)[:100]),
			whole(laid(n, text(300))),
		)
	}
	return append(all, nil, []byte{1}, slices.Repeat([]byte{1}, 300), slices.Repeat([]byte{2}, 235), make([]byte, 360), text(117), text(118), text(400))
}

// Behind a crash at any write, whatever is kept: all that was answered, and what was under way wholly or not at all; so again, if one goes on from there, into what a crash left of longer ones (P11.2).
func TestCrashAtAnyWrite(t *testing.T) {
	all := nasty()
	for i, rec := range all {
		before := [][]byte{text(118), all[(i+5)%len(all)]}
		fresh := func() *disk.Disk {
			d := disked(t, 22)
			j, _ := opened(t, d, 1, 20)
			appended(t, j, before...)
			return d
		}
		crashes(t, 1, 20, rec, fresh, func(d *disk.Disk, whole bool) {
			recs := slices.Clone(before)
			if whole {
				recs = append(recs, rec)
			}
			j := expectRecords(t, "behind a crash", d, 1, 20, recs...)
			next := all[(i+11)%len(all)]
			appended(t, j, []byte("short"), next)
			expectRecords(t, "gone on", d, 1, 20, append(recs, []byte("short"), next)...)
		})
	}
}

// Two crashes, one behind the other, at each write of each (P11.2).
func TestTwoCrashes(t *testing.T) {
	for _, sizes := range [][2]int{{350, 0}, {350, 118}, {118, 350}, {0, 300}, {360, 360}} {
		first, last := text(sizes[0]), nasty()[3][:sizes[1]]
		crashes(t, 0, 12, first, func() *disk.Disk { return disked(t, 12) }, func(d *disk.Disk, whole bool) {
			var recs [][]byte
			if whole {
				recs = append(recs, first)
			}
			kept := blocksOf(t, d)
			again := func() *disk.Disk {
				d := disked(t, 12)
				put(t, d, 0, kept...)
				return d
			}
			crashes(t, 0, 12, last, again, func(d *disk.Disk, whole bool) {
				all := slices.Clone(recs)
				if whole {
					all = append(all, last)
				}
				j := expectRecords(t, "behind two crashes", d, 0, 12, all...)
				appended(t, j, []byte{}, []byte{9}, text(200))
				expectRecords(t, "gone on", d, 0, 12, append(all, []byte{}, []byte{9}, text(200))...)
			})
		})
	}
}

// Crashes by chance, in many records: those that were answered are there, and no others but the one under way (P11.2).
func TestCrashesByChance(t *testing.T) {
	all := nasty()
	for seed := range int64(300) {
		r := rand.New(rand.NewSource(seed))
		d := disked(t, 60)
		var recs [][]byte
		for range 20 {
			j := expectRecords(t, "opened", d, 3, 50, recs...)
			d.Arm(1 + r.Intn(8))
			for {
				rec := all[r.Intn(len(all))]
				err := j.Append(rec)
				if err == api.ErrFull {
					break
				}
				if err == api.OK {
					recs = append(recs, rec)
					continue
				}
				keep := make([]bool, r.Intn(8))
				for k := range keep {
					keep[k] = r.Intn(2) == 0
				}
				d.Crash(keep)
				if _, got := opened(t, d, 3, 50); len(got) == len(recs)+1 {
					recs = append(recs, rec)
				}
				break
			}
			d.Crash(nil)
		}
		if b, _ := d.Read(2); b != (disk.Block{}) {
			t.Fatal("a block ahead is touched")
		}
		if b, _ := d.Read(53); b != (disk.Block{}) {
			t.Fatal("a block behind is touched")
		}
	}
}

// A Format that is cut off leaves as many of the first records, whole; and nothing that comes back behind new ones (P11.2).
func TestFormatCutOff(t *testing.T) {
	recs := [][]byte{text(300), text(1), text(118), text(2), nil}
	for n := 1; ; n++ {
		cutOff := true
		for seed := range int64(20) {
			d := disked(t, 10)
			j, _ := opened(t, d, 1, 9)
			appended(t, j, recs...)
			d.Arm(n)
			err := journal.Format(d, 1, 9)
			cutOff = d.Down()
			if cutOff != (err == api.ErrDown) {
				t.Fatalf("off at write %d: %v", n, err)
			}
			r, keep := rand.New(rand.NewSource(seed)), make([]bool, 20)
			for k := range keep {
				keep[k] = r.Intn(2) == 0
			}
			d.Crash(keep)
			j, got := opened(t, d, 1, 9)
			if len(got) > len(recs) || !same(got, recs[:len(got)]) || !cutOff && len(got) > 0 {
				t.Fatalf("off at write %d: %d records %.200x", n, len(got), got)
			}
			for j.Room() > 0 {
				appended(t, j, []byte("new"))
				got = append(got, []byte("new"))
				expectRecords(t, "gone on", d, 1, 9, got...)
			}
		}
		if !cutOff {
			break
		}
	}
}

// Blocks behind a head are read whatever they are, also heads of the next number: the next record stands behind them (P11.1).
func TestBlocksBehindAHead(t *testing.T) {
	rec, last := text(300), text(200)
	d := disked(t, 10)
	put(t, d, 0, laid(0, rec)...)
	put(t, d, 1, laid(1, []byte("false"))...)
	put(t, d, 2, disk.Block(text(128)))
	put(t, d, 3, laid(1, last)...)
	want := slices.Concat(rec[:117], laid(1, []byte("false"))[0][11:], text(128)[11:])[:300]
	expectRecords(t, "false heads", d, 0, 10, want, last)
	put(t, d, 2, disk.Block{})
	copy(want[234:], make([]byte, 66))
	expectRecords(t, "noughts", d, 0, 10, want, last)
	put(t, d, 4, laid(2, nil)...)
	copy(last[117:], make([]byte, 83))
	j := expectRecords(t, "a false head of what would be the next number", d, 0, 10, want, last)
	appended(t, j, []byte("next"))
	expectRecords(t, "the next one", d, 0, 10, want, last, []byte("next"))
}

// What isn't a head with the next number, or asks for more blocks than are there, is where the records end, whatever stands behind it (P11.1).
func TestWhereRecordsEnd(t *testing.T) {
	recs := texts(1, 200, 2, 118, 3)
	places := []int{0, 1, 3, 4, 6}
	end := func(why string, k int, b disk.Block) {
		t.Helper()
		d := disked(t, 8)
		for i, rec := range recs {
			put(t, d, places[i], laid(uint64(i), rec)...)
		}
		expectRecords(t, "all", d, 0, 8, recs...)
		put(t, d, places[k], b)
		j := expectRecords(t, why, d, 0, 8, recs[:k]...)
		// One that is taken there hides what stood there; what stands behind it are heads of numbers that come behind.
		appended(t, j, recs[k])
		expectRecords(t, "mended", d, 0, 8, recs...)
	}
	for k, rec := range recs {
		good := laid(uint64(k), rec)[0]
		end("noughts", k, disk.Block{})
		for kind := range 256 {
			b := good
			b[0] = byte(kind)
			if kind != 1 {
				end("no head", k, b)
			}
		}
		for bit := range 64 {
			b := good
			b[1+bit/8] ^= 1 << (bit % 8)
			end("another number", k, b)
		}
		end("the next number", k, laid(uint64(k)+1, rec)[0])
		room := 8 - places[k]
		for _, count := range []int{117*room + 1, 117*room + 200, 30000, 65535} {
			b := laid(uint64(k), make([]byte, count))[0]
			end("more blocks than there are", k, b)
		}
	}
	for at := 13; at < 128; at++ {
		b := laid(2, recs[2])[0]
		b[at] = 1
		end("not noughts behind its bytes", 2, b)
	}
}

// A record whose blocks go to the very end is there; of a journal of a block less it isn't, nor what stands behind its end (P11.1).
func TestWithin(t *testing.T) {
	d := disked(t, 10)
	recs := texts(10, 351, 20)
	put(t, d, 2, slices.Concat(laid(0, recs[0]), laid(1, recs[1]), laid(2, recs[2]))...)
	expectRecords(t, "6 blocks", d, 2, 6, recs...)
	expectRecords(t, "5 blocks", d, 2, 5, recs...)
	expectRecords(t, "4 blocks", d, 2, 4, recs[:2]...)
	expectRecords(t, "3 blocks", d, 2, 3, recs[:1]...)
	expectRecords(t, "1 block", d, 2, 1, recs[:1]...)
	expectRecords(t, "not from the first block on", d, 3, 5)
	expectRecords(t, "from a block ahead", d, 1, 7)
}

// Journals side by side don't know of each other (rule 5).
func TestSideBySide(t *testing.T) {
	d := disked(t, 9)
	a, _ := opened(t, d, 0, 4)
	b, _ := opened(t, d, 4, 5)
	appended(t, a, text(200))
	appended(t, b, text(300))
	appended(t, a, text(118))
	appended(t, b, text(119))
	expectRecords(t, "a", d, 0, 4, text(200), text(118))
	expectRecords(t, "b", d, 4, 5, text(300), text(119))
	if err := journal.Format(d, 0, 4); err != api.OK {
		t.Fatal(err)
	}
	expectRecords(t, "a, formatted", d, 0, 4)
	expectRecords(t, "b", d, 4, 5, text(300), text(119))
}

// What is handed in stays as it was, its spare room too, and isn't kept; answers share no memory, neither with the journal nor among each other (P11.3).
func TestNothingKeptOrChanged(t *testing.T) {
	d := disked(t, 700)
	j, _ := opened(t, d, 0, 700)
	recs := texts(sizes()...)
	for i, rec := range recs {
		b := slices.Clone(rec[:cap(rec)])
		appended(t, j, b[:len(rec)])
		if !bytes.Equal(b, rec[:cap(rec)]) {
			t.Errorf("record %d: changed", i)
		}
		clear(b)
	}
	_, got := opened(t, d, 0, 700)
	for i := range got {
		b := append(got[i], slices.Repeat([]byte{0xff}, 300)...)
		clear(b)
		clear(got[i][:cap(got[i])])
		if !same(got[i+1:], recs[i+1:]) {
			t.Fatalf("record %d shares with those behind it", i)
		}
	}
	expectRecords(t, "kept", d, 0, 700, recs...)
}

// Reading changes nothing of a disk (P11.1).
func TestOpenWritesNothing(t *testing.T) {
	d := dirty(t, 5)
	before, writes := blocksOf(t, d), d.Writes()
	opened(t, d, 0, 5)
	opened(t, d, 1, 3)
	if !slices.Equal(blocksOf(t, d), before) || d.Writes() != writes {
		t.Error("written")
	}
}

// A nil journal; and one that Open didn't make: it has no blocks (P1, P11.1).
func TestNoJournal(t *testing.T) {
	var none *journal.Journal
	for _, rec := range [][]byte{nil, {1}, make([]byte, 65536)} {
		if err := none.Append(rec); err != api.ErrArg {
			t.Errorf("%d bytes: %v", len(rec), err)
		}
	}
	expectCounts(t, "nil", none, 0, 0)
	zero := &journal.Journal{}
	if zero.Append(nil) != api.ErrFull || zero.Append(make([]byte, 65536)) != api.ErrBig {
		t.Error("zero")
	}
	expectCounts(t, "zero", zero, 0, 0)
}
