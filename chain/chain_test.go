package chain_test

import (
	"bytes"
	"crypto/sha256"
	"encoding/binary"
	"encoding/hex"
	"math"
	"math/rand"
	"slices"
	"strings"
	"testing"

	"custumal/api"
	"custumal/chain"
)

// What the chapter says, put together apart.

func firstText(id []byte) []byte { return append([]byte{4}, id...) }

func nextText(id []byte, epoch uint64, root, ahead [32]byte) []byte {
	text := binary.BigEndian.AppendUint16([]byte{3}, uint16(len(id)%65536))
	text = binary.BigEndian.AppendUint64(append(text, id...), epoch)
	return slices.Concat(text, root[:], ahead[:])
}

// linked: the links of epochs from one on.
func linked(id []byte, from uint64, ahead [32]byte, roots [][32]byte) (links [][32]byte) {
	for k, root := range roots {
		ahead = sha256.Sum256(nextText(id, from+uint64(k), root, ahead))
		links = append(links, ahead)
	}
	return links
}

func sum(seed int64) (b [32]byte) {
	rand.New(rand.NewSource(seed)).Read(b[:])
	return b
}

func sums(seed int64, n int) (l [][32]byte) {
	for i := range n {
		l = append(l, sum(1000*seed+int64(i)))
	}
	return l
}

// name: an id of so many bytes, with spare room behind it.
func name(size int) []byte {
	b := make([]byte, size+200)
	rand.New(rand.NewSource(int64(size))).Read(b)
	return b[:size]
}

// ids: of all counts at whose edges something may change; longer ones than a tenant's too.
func ids() [][]byte {
	l := [][]byte{nil, {}, {0}, {4}, []byte("a"), []byte("tenant")}
	for _, size := range []int{15, 16, 17, 55, 56, 255, 256, 257, 65534, 65535, 65536, 65537, 131072} {
		l = append(l, name(size))
	}
	return l
}

// epochs: that of 2^64 less one is -1.
var epochs = []int{0, 1, 2, 31, 32, 255, 256, 65536, 1 << 32, 0x0102030405060708, math.MaxInt - 1, math.MaxInt, -1, -2, -256, math.MinInt, math.MinInt + 1}

// Links that were worked out by another program (P18.1).
func TestKnownLinks(t *testing.T) {
	expect := func(got [32]byte, want string) {
		t.Helper()
		if hex.EncodeToString(got[:]) != want {
			t.Errorf("%x, not %s", got, want)
		}
	}
	var root, ahead [32]byte
	for i := range root {
		root[i], ahead[i] = byte(i), byte(32+i)
	}
	expect(chain.First(nil), "e52d9c508c502347344d8c07ad91cbd6068afc75ff6292f062a09ca381c89e71")
	expect(chain.First([]byte("a")), "19d5f57c8e8b3cd760f853bb8d7900d68e10ef02674383de65a9b4d65e419b26")
	expect(chain.Next(nil, 0, root, ahead), "6ab202da202dda861d0a1d4df319fac7f7f11d832137ab600625308b9f060df1")
	expect(chain.Next([]byte("a"), 1, root, ahead), "42cad7582d57f248d49bbc39b1d52012c7aa14b38787fb1c6c1bb5dc06ca6ad3")
	expect(chain.Next([]byte("tenant of 16 byt"), -1, root, ahead), "e23ac490ee277d882bc50e1cc717f3540d180365df8262bc9f7d27699f26a705")
	expect(chain.Next([]byte(strings.Repeat("z", 65536)), 258, root, ahead), "26ea827f6655d2020c06e002d03de7f02a72bd8ff4dc4af589009bc61a6d9c48")
}

// The chapter's example: Text of an id of 5 bytes has 80 bytes (P18.1).
func TestExample(t *testing.T) {
	if n := len(chain.Text([]byte("12345"), 7, sum(1), sum(2))); n != 80 {
		t.Errorf("%d bytes", n)
	}
}

// The links are the sums of their texts, of ids of all lengths, whose count is told modulo 65536, and of all epochs (P18.1).
func TestLinks(t *testing.T) {
	for _, id := range ids() {
		if chain.First(id) != sha256.Sum256(firstText(id)) {
			t.Errorf("%d bytes: First", len(id))
		}
		for i, epoch := range epochs {
			root, ahead := sum(int64(i)), sum(int64(100+i))
			want := nextText(id, uint64(epoch), root, ahead)
			if got := chain.Text(id, epoch, root, ahead); !bytes.Equal(got, want) {
				t.Errorf("%d bytes, epoch %d: Text %.100x", len(id), epoch, got)
			}
			if got := chain.Next(id, epoch, root, ahead); got != sha256.Sum256(want) {
				t.Errorf("%d bytes, epoch %d: Next %x", len(id), epoch, got)
			}
		}
	}
	if text := chain.Text(nil, -1, [32]byte{}, [32]byte{}); !bytes.Equal(text[3:11], bytes.Repeat([]byte{0xff}, 8)) {
		t.Errorf("the epoch of 2^64 less one: %x", text)
	}
	if text := chain.Text(name(65536), 0, [32]byte{}, [32]byte{}); !bytes.Equal(text[1:3], []byte{0, 0}) || len(text) != 65536+75 {
		t.Errorf("an id of 65536 bytes: %x, %d bytes", text[:3], len(text))
	}
}

// Links that stand on each other are taken, from any epoch on, of none, of one, of many; epochs count modulo 2^64 (P18.1).
func TestCheckTakes(t *testing.T) {
	for i, id := range [][]byte{nil, []byte("a"), name(16), name(17), name(300)} {
		for _, from := range append(epochs, -20, math.MaxInt-20) {
			for _, count := range []int{0, 1, 2, 3, 33} {
				ahead, roots := sum(int64(i)), sums(int64(i), count)
				links := linked(id, uint64(from), ahead, roots)
				if err := chain.Check(id, from, ahead, roots, links); err != api.OK {
					t.Errorf("%d bytes, %d links from %d: %v", len(id), count, from, err)
				}
			}
		}
	}
	// A list of none is one, nil or empty, whatever stands ahead (rule 3).
	for _, roots := range [][][32]byte{nil, {}} {
		for _, links := range [][][32]byte{nil, {}} {
			if err := chain.Check(name(3), 5, sum(9), roots, links); err != api.OK {
				t.Errorf("of none: %v", err)
			}
		}
	}
	long := name(65536)
	if err := chain.Check(long, 1, chain.First(long), sums(1, 2), linked(long, 1, sha256.Sum256(firstText(long)), sums(1, 2))); err != api.OK {
		t.Errorf("a long id: %v", err)
	}
}

// Links made by First and Next are taken (P18.1).
func TestCheckTakesWhatIsMade(t *testing.T) {
	id, roots := []byte("tenant"), sums(4, 20)
	ahead := chain.First(id)
	var links [][32]byte
	for i, root := range roots {
		ahead = chain.Next(id, i+1, root, ahead)
		links = append(links, ahead)
	}
	for from := range roots {
		before := chain.First(id)
		if from > 0 {
			before = links[from-1]
		}
		for to := from; to <= len(roots); to++ {
			if err := chain.Check(id, from+1, before, roots[from:to], links[from:to]); err != api.OK {
				t.Errorf("from %d to %d: %v", from, to, err)
			}
		}
	}
}

// Unlike counts are ErrArg, ahead of what the links are (P18.1; rule 1).
func TestUnlikeCounts(t *testing.T) {
	id, ahead, roots := []byte("a"), sum(1), sums(2, 4)
	links := linked(id, 3, ahead, roots)
	for m := range 5 {
		for n := range 5 {
			want := api.OK
			if m != n {
				want = api.ErrArg
			}
			if err := chain.Check(id, 3, ahead, roots[:m], links[:n]); err != want {
				t.Errorf("%d roots, %d links: %v", m, n, err)
			}
			if err := chain.Check(id, 4, sum(9), roots[:m], links[:n]); m != n && err != api.ErrArg {
				t.Errorf("%d roots, %d links that are false: %v", m, n, err)
			}
		}
	}
}

// A link that isn't the one of its id, epoch, root and link ahead is ErrProof, wherever it stands (P18.1).
func TestCheckRefuses(t *testing.T) {
	id, from, ahead, roots := []byte("tenant"), 5, sum(1), sums(2, 5)
	links := linked(id, 5, ahead, roots)
	refused := func(why string, id []byte, from int, ahead [32]byte, roots, links [][32]byte) {
		t.Helper()
		if err := chain.Check(id, from, ahead, roots, links); err != api.ErrProof {
			t.Errorf("%s: %v", why, err)
		}
	}
	for count := 1; count <= 5; count++ {
		roots, links := roots[:count], links[:count]
		for _, other := range [][]byte{nil, []byte("tenanT"), []byte("tenan"), []byte("tenant\x00"), name(65542)} {
			refused("id", other, from, ahead, roots, links)
		}
		for _, other := range []int{0, 4, 6, -5, 5 + 1<<32, 5 + math.MinInt} {
			refused("epoch", id, other, ahead, roots, links)
		}
		for bit := range 256 {
			refused("ahead", id, from, turned([][32]byte{ahead}, 0, bit)[0], roots, links)
			for k := range count {
				refused("root", id, from, ahead, turned(roots, k, bit), links)
				refused("link", id, from, ahead, roots, turned(links, k, bit))
			}
		}
		for k := 1; k < count; k++ {
			refused("roots in another order", id, from, ahead, swapped(roots, k), links)
			refused("links in another order", id, from, ahead, roots, swapped(links, k))
			refused("both in another order", id, from, ahead, swapped(roots, k), swapped(links, k))
		}
		if count > 1 {
			refused("a link of the first one's epoch", id, from, ahead, roots, append(slices.Clone(links[:count-1]), sha256.Sum256(nextText(id, 5, roots[count-1], links[count-2]))))
			refused("a link on the first one", id, from, ahead, roots, append(slices.Clone(links[:count-1]), sha256.Sum256(nextText(id, uint64(5+count-1), roots[count-1], ahead))))
		}
	}
}

func turned(l [][32]byte, k, bit int) [][32]byte {
	l = slices.Clone(l)
	l[k][bit/8] ^= 0x80 >> (bit % 8)
	return l
}

func swapped(l [][32]byte, k int) [][32]byte {
	l = slices.Clone(l)
	l[k], l[k-1] = l[k-1], l[k]
	return l
}

// past is a tenant's epochs from 1 on.
type past struct {
	id    []byte
	roots [][32]byte
}

// texts: what is summed up of a past, its end last.
func (p past) texts() [][]byte {
	all, ahead := [][]byte{firstText(p.id)}, chain.First(p.id)
	for i, root := range p.roots {
		all = append(all, chain.Text(p.id, i+1, root, ahead))
		ahead = chain.Next(p.id, i+1, root, ahead)
	}
	return all
}

// pasts: some that are hard to tell apart, all of as many epochs.
func pasts(count int) (all []past) {
	roots := sums(1, count)
	for _, id := range [][]byte{nil, {0}, {0, 0}, {3}, {4}, []byte("a"), []byte("ab"), name(16), name(300), name(65535)} {
		all = append(all, past{id, roots})
		for k := range count {
			all = append(all, past{id, turned(roots, k, 0)}, past{id, turned(roots, k, 255)})
		}
		for k := 1; k < count; k++ {
			all = append(all, past{id, swapped(roots, k)})
		}
	}
	return all
}

// Of two unlike pasts of as many epochs the texts, seen from the end, come to a place where they are unlike, and till there each has the sum of the one ahead at its end: if both end in one link, these two have one sum (P18.2).
func TestUnlikePastsHaveUnlikeTexts(t *testing.T) {
	for count := range 5 {
		var all [][][]byte
		for _, p := range pasts(count) {
			texts := p.texts()
			all = append(all, texts)
			for i, text := range texts[1:] {
				if ahead := sha256.Sum256(texts[i]); !bytes.HasSuffix(text, ahead[:]) {
					t.Fatalf("text %d doesn't stand on the one ahead", i+1)
				}
			}
		}
		for i, a := range all {
			for _, b := range all[:i] {
				if slices.EqualFunc(a, b, bytes.Equal) {
					t.Fatalf("%d epochs: two pasts have the texts %.300x", count, a)
				}
			}
		}
	}
}

// No two texts of unlike ids, epochs, roots and links ahead are alike, though bytes of one may stand where those of another do; none is one of a first link (P18.2).
func TestTextsTellAllApart(t *testing.T) {
	var zero, full [32]byte
	for i := range full {
		full[i] = 0xff
	}
	told := map[string]bool{}
	add := func(text []byte) {
		if told[string(text)] {
			t.Fatalf("two have the text %.100x", text)
		}
		told[string(text)] = true
	}
	for size := range 90 {
		for _, fill := range []byte{0, 3, 4, 0xff} {
			id := bytes.Repeat([]byte{fill}, size)
			if size == 0 && fill != 0 {
				continue
			}
			add(firstText(id))
			for _, epoch := range []int{0, 1, -1} {
				for _, root := range [][32]byte{zero, full} {
					add(chain.Text(id, epoch, root, zero))
					add(chain.Text(id, epoch, root, full))
				}
			}
		}
	}
}

// What is handed in is neither changed, its spare room neither, nor kept (P18.3).
func TestListsAreLeftAlone(t *testing.T) {
	for _, size := range []int{0, 1, 16, 300} {
		id := name(size)
		roots := sums(1, 9)
		links := append(linked(id, 1, chain.First(id), roots[:5]), sums(2, 4)...)
		ids, firsts, seconds := slices.Clone(id[:cap(id)]), slices.Clone(roots), slices.Clone(links)
		first, text, next := chain.First(id), chain.Text(id, 1, sum(1), sum(2)), chain.Next(id, 1, sum(1), sum(2))
		if err := chain.Check(id, 1, first, roots[:5], links[:5]); err != api.OK {
			t.Errorf("%d bytes: %v", size, err)
		}
		chain.Check(id, 2, first, roots[:5], links[:5])
		chain.Check(id, 1, first, roots[:5], links[:4])
		if !bytes.Equal(id[:cap(id)], ids) || !slices.Equal(roots, firsts) || !slices.Equal(links, seconds) {
			t.Errorf("%d bytes: changed", size)
		}
		clear(id[:cap(id)])
		if !bytes.Equal(text, nextText(ids[:size], 1, sum(1), sum(2))) || sha256.Sum256(text) != next || chain.First(ids[:size]) != first {
			t.Errorf("%d bytes: kept", size)
		}
	}
}

// A text is new memory, up to the end of its room (P18.3).
func TestTextsAreNew(t *testing.T) {
	for _, size := range []int{0, 1, 16, 300} {
		id := name(size)
		was := slices.Clone(id[:cap(id)])
		want := nextText(was[:size], 3, sum(1), sum(2))
		one, two := chain.Text(id, 3, sum(1), sum(2)), chain.Text(id, 3, sum(1), sum(2))
		clear(one[:cap(one)])
		if !bytes.Equal(two, want) || !bytes.Equal(chain.Text(id, 3, sum(1), sum(2)), want) || !bytes.Equal(id[:cap(id)], was) {
			t.Errorf("%d bytes: a text's memory is another one's too", size)
		}
	}
}
