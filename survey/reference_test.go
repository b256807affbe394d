package survey_test

import (
	"encoding/binary"
	"fmt"
	"math/rand"
	"slices"
	"testing"

	"custumal/api"
	"custumal/disk"
	"custumal/keep"
	"custumal/survey"
)

// What stands on a disk, read off its blocks as layer 11's chapter tells records.

// headOf: the count of bytes that a head of that number tells; -1: the block is none.
func headOf(b disk.Block, number int) int {
	if b[0] != 1 || binary.BigEndian.Uint64(b[1:]) != uint64(number) {
		return -1
	}
	count := int(binary.BigEndian.Uint16(b[9:]))
	for i := 11 + count; i < len(b); i++ {
		if b[i] != 0 {
			return -1
		}
	}
	return count
}

// journalRows: of these blocks, of which the first one has that number.
func journalRows(blocks []disk.Block, first, place int) (l []survey.Row) {
	number := 0
	for len(l) < len(blocks) {
		count := headOf(blocks[len(l)], number)
		need := max(1, (count+116)/117)
		if count < 0 || len(l)+need > len(blocks) {
			break
		}
		for i := range need {
			kind := survey.Rest
			if i == 0 {
				kind = survey.Head
			}
			l = append(l, survey.Row{Block: first + len(l), Place: place, Kind: kind, Record: number})
		}
		number++
	}
	for i := len(l); i < len(blocks); i++ {
		kind := survey.Stray
		if blocks[i] == (disk.Block{}) {
			kind = survey.Empty
		}
		l = append(l, survey.Row{Block: first + i, Place: place, Kind: kind, Record: -1})
	}
	return l
}

func rowsOf(blocks []disk.Block, c keep.Config) []survey.Row {
	l := journalRows(blocks[:c.Common], 0, -1)
	for place := range c.Places {
		first := c.Common + place*c.Each
		l = append(l, journalRows(blocks[first:first+c.Each], first, place)...)
	}
	return l
}

// textOf: rows as lines, each of which knows its last block.
func textOf(l []survey.Row) string {
	type line struct {
		row  survey.Row
		last int
	}
	var all []line
	for i, r := range l {
		if i > 0 && r.Kind == survey.Empty && l[i-1].Kind == survey.Empty && l[i-1].Place == r.Place && l[i-1].Block < r.Block && l[i-1].Block+1 == r.Block {
			all[len(all)-1].last = r.Block
			continue
		}
		all = append(all, line{r, r.Block})
	}
	text := ""
	for _, x := range all {
		where := "common"
		if x.row.Place != -1 {
			where = fmt.Sprintf("place%d", x.row.Place)
		}
		name, there := map[int]string{0: "empty", 1: fmt.Sprintf("head %d", x.row.Record), 2: fmt.Sprintf("rest %d", x.row.Record), 3: "stray"}[x.row.Kind]
		if !there {
			name = "?"
		}
		text += fmt.Sprintf("%d %s %s", x.row.Block, where, name)
		if x.last != x.row.Block {
			text += fmt.Sprintf(" to %d", x.last)
		}
		text += "\n"
	}
	return text
}

// Blocks by hand.

func head(number, count int, part string) disk.Block {
	b := disk.Block{1}
	binary.BigEndian.PutUint64(b[1:], uint64(number))
	binary.BigEndian.PutUint16(b[9:], uint16(count))
	copy(b[11:], part)
	return b
}

func rest(part string) disk.Block {
	b := disk.Block{2}
	copy(b[11:], part)
	return b
}

// diskOf: one that has these blocks, and they last.
func diskOf(t *testing.T, blocks []disk.Block) *disk.Disk {
	t.Helper()
	d, err := disk.New(len(blocks))
	if err != api.OK {
		t.Fatal(err)
	}
	for i, b := range blocks {
		if b != (disk.Block{}) {
			d.Write(i, b)
		}
	}
	d.Sync()
	return d
}

func blocksOf(t *testing.T, d *disk.Disk) (all []disk.Block) {
	t.Helper()
	for i := range d.Size() {
		b, err := d.Read(i)
		if err != api.OK {
			t.Fatal(err)
		}
		all = append(all, b)
	}
	return all
}

// said: as text, in which nil and empty lists are one.
func said(parts ...any) string { return fmt.Sprintf("%+v", parts) }

// expect: the rows of a disk are those of its blocks; nothing is written.
func expect(t *testing.T, why string, d *disk.Disk, c keep.Config) []survey.Row {
	t.Helper()
	before, writes, waiting := blocksOf(t, d), d.Writes(), d.Waiting()
	got, err := survey.Rows(d, c)
	want := rowsOf(before, c)
	if err != api.OK || !slices.Equal(got, want) {
		for i := range min(len(got), len(want)) {
			if got[i] != want[i] {
				t.Fatalf("%s: %v, %+v, not %+v", why, err, got[i], want[i])
			}
		}
		t.Fatalf("%s: %v, %d rows, not %d", why, err, len(got), len(want))
	}
	if !slices.Equal(blocksOf(t, d), before) || d.Writes() != writes || d.Waiting() != waiting {
		t.Fatalf("%s: something was written", why)
	}
	if text := survey.Text(got); text != textOf(want) {
		t.Fatalf("%s: Text:\n%s\nnot\n%s", why, text, textOf(want))
	}
	return got
}

// chanceBlocks: heads, mostly of the number that comes next, rests, noughts, and others.
func chanceBlocks(c *rand.Rand, count int) (l []disk.Block) {
	number := 0
	for len(l) < count {
		var b disk.Block
		switch n := c.Intn(12); {
		case n < 5:
			size := c.Intn(118)
			if c.Intn(3) == 0 {
				size = c.Intn(600)
			}
			b = head(number, size, string(make([]byte, 117)))
			for i := range min(size, 117) {
				b[11+i] = byte(c.Intn(256))
			}
			number++
			if c.Intn(20) == 0 {
				b[c.Intn(128)] ^= 1
			}
		case n < 8:
			b = rest("behind")
		case n == 8 && len(l) > count/3:
			c.Read(b[:])
		}
		l = append(l, b)
	}
	return l
}
