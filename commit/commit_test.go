package commit_test

import (
	"bytes"
	library "crypto/hmac"
	"crypto/sha256"
	"encoding/binary"
	"encoding/hex"
	"math"
	"math/rand"
	"slices"
	"strings"
	"testing"

	"custumal/api"
	"custumal/commit"
)

// opened is all that a bound value is made of, but for the key.
type opened struct {
	open, index [32]byte
	version     int
	value       []byte
}

func (o opened) check(bound [32]byte) api.Errno {
	return commit.Check(bound, o.open, o.index, o.version, o.value)
}

func (o opened) texts() [][]byte { return commit.Texts(o.open, o.index, o.version, o.value) }

// What the chapter says, put together apart.

func mark(key []byte, parts ...[]byte) [32]byte {
	h := library.New(sha256.New, key)
	for _, part := range parts {
		h.Write(part)
	}
	return [32]byte(h.Sum(nil))
}

func eight(n int) []byte { return binary.BigEndian.AppendUint64(nil, uint64(n)) }

func (o opened) bound() [32]byte { return mark(o.open[:], o.index[:], eight(o.version), o.value) }

func openOf(key, index [32]byte, version int) [32]byte {
	return mark(key[:], []byte("open"), index[:], eight(version))
}

func (o opened) wantTexts() [][]byte {
	pads := [2][]byte{bytes.Repeat([]byte{0x36}, 64), bytes.Repeat([]byte{0x5c}, 64)}
	for i, b := range o.open {
		pads[0][i] ^= b
		pads[1][i] ^= b
	}
	inner := slices.Concat(pads[0], o.index[:], eight(o.version), o.value)
	sum := sha256.Sum256(inner)
	return [][]byte{inner, slices.Concat(pads[1], sum[:])}
}

// sum: bytes that differ.
func sum(seed int64) (b [32]byte) {
	rand.New(rand.NewSource(seed)).Read(b[:])
	return b
}

// text: bytes that differ, with spare room behind them.
func text(size int) []byte {
	b := make([]byte, size+100)
	rand.New(rand.NewSource(int64(size))).Read(b)
	return b[:size]
}

// versions: nought, the greatest, below nought, and such as a byte that is left out would tell apart.
var versions = []int{0, 1, 2, 255, 256, 1 << 16, 1 << 32, 0x0102030405060708, math.MaxInt - 1, math.MaxInt, -1, -2, -256, math.MinInt + 1, math.MinInt}

// values: of no byte on, round the ends of the sums' blocks, and long ones.
var values = [][]byte{nil, {}, {0}, {0, 0}, []byte("value"), text(15), text(16), text(23), text(24), text(63), text(64), text(65), text(1000), text(65537)}

// all: openings by chance, of all these versions and values.
func all() (l []opened) {
	for i, version := range versions {
		for j, value := range values {
			l = append(l, opened{sum(int64(i)), sum(int64(100 + j)), version, value})
		}
	}
	var full [32]byte
	for i := range full {
		full[i] = 0xff
	}
	return append(l, opened{}, opened{open: full, index: full, version: -1, value: full[:]})
}

// Marks that were worked out by another program (P17.1).
func TestKnownValues(t *testing.T) {
	var key, index [32]byte
	for i := range key {
		key[i], index[i] = byte(i), byte(32+i)
	}
	for _, c := range []struct {
		version     int
		value       string
		bound, open string
	}{
		{0, "", "dbb52c61660dd1292eddfbbd34e9688bab3babf8f359c581315efbf83177c5f3", "1e5fcadf6b57329120426fc790c00c0de60e3a7350e23852029da5d9b0139a99"},
		{1, "value", "02b0980521633ca6242715c02da4dcf233327de5009acbb67d6cce7413d494fd", "a9422d1fd280c3858b3a89a3ff6d46e88bc5cffaa9cd8bcbaa7bf9b0226a9967"},
		{-1, "", "86c283b54c62b60bb9ded90d32c6f556abca7418f176f9f81875433166512d20", "eeebac95bc89b8fa284a5ed0780d5cdfe05db52b23f0f2664631911cdd389fa3"},
		{math.MaxInt, strings.Repeat("x", 65), "ed8b843b458657a96eda58e0a288461707795fc67c390593fec5628de9c8ef5d", "51a2b80cc1f2891845207c112c42a4568ad0befb8ae28528e38248031a5b9cf7"},
	} {
		bound, open := commit.Make(key, index, c.version, []byte(c.value))
		if hex.EncodeToString(bound[:]) != c.bound || hex.EncodeToString(open[:]) != c.open {
			t.Errorf("version %d: %x, %x", c.version, bound, open)
		}
		if err := commit.Check(bound, open, index, c.version, []byte(c.value)); err != api.OK {
			t.Errorf("version %d: %v", c.version, err)
		}
	}
}

// Make tells the marks of its parts, at all versions and values (P17.1).
func TestMake(t *testing.T) {
	for _, o := range all() {
		key := o.open
		bound, open := commit.Make(key, o.index, o.version, o.value)
		if want := openOf(key, o.index, o.version); open != want {
			t.Errorf("version %d: opened by %x, not %x", o.version, open, want)
		}
		o.open = open
		if want := o.bound(); bound != want {
			t.Errorf("version %d, %d bytes: %x, not %x", o.version, len(o.value), bound, want)
		}
	}
}

// Each version of an index has an opening of its own; the value has no part in it (P17.1).
func TestOpeningHangsOnKeyIndexAndVersion(t *testing.T) {
	_, open := commit.Make(sum(1), sum(2), 3, []byte("a"))
	if _, other := commit.Make(sum(1), sum(2), 3, text(64)); other != open {
		t.Error("another value has another opening")
	}
	for _, other := range []struct {
		key, index [32]byte
		version    int
	}{{sum(4), sum(2), 3}, {sum(1), sum(4), 3}, {sum(1), sum(2), 4}, {sum(2), sum(1), 3}} {
		if _, o := commit.Make(other.key, other.index, other.version, []byte("a")); o == open {
			t.Errorf("%v has the same opening", other)
		}
	}
}

// What is made is opened (P17.2); nil and empty values are one (rule 3).
func TestWhatIsMadeIsOpened(t *testing.T) {
	for _, o := range all() {
		var bound [32]byte
		bound, o.open = commit.Make(sum(7), o.index, o.version, o.value)
		if err := o.check(bound); err != api.OK {
			t.Errorf("version %d, %d bytes: %v", o.version, len(o.value), err)
		}
		if o.value = append([]byte{}, o.value...); o.check(bound) != api.OK {
			t.Errorf("version %d, a copy of %d bytes: %v", o.version, len(o.value), o.check(bound))
		}
	}
}

// Check takes any opening that binds, also one that no key made (P17.1).
func TestCheckTakesAnyOpening(t *testing.T) {
	for _, o := range all() {
		if err := o.check(o.bound()); err != api.OK {
			t.Errorf("%x, version %d, %d bytes: %v", o.open, o.version, len(o.value), err)
		}
	}
}

// Another version, value, opening, index or bound value isn't taken, whichever bit is another (P17.1).
func TestWhatIsNotOpened(t *testing.T) {
	for _, value := range [][]byte{nil, {0}, []byte("value"), text(64)} {
		for _, version := range []int{0, 1, math.MaxInt, -1} {
			o := opened{sum(1), sum(2), version, value}
			bound := o.bound()
			for i := range 256 {
				turned := func(b [32]byte) [32]byte {
					b[i/8] ^= 0x80 >> (i % 8)
					return b
				}
				expectRefused(t, "bound", turned(bound), o)
				expectRefused(t, "open", bound, opened{turned(o.open), o.index, version, value})
				expectRefused(t, "index", bound, opened{o.open, turned(o.index), version, value})
				expectRefused(t, "version", bound, opened{o.open, o.index, version ^ 1<<(i%64), value})
			}
			for _, other := range others(value) {
				expectRefused(t, "value", bound, opened{o.open, o.index, version, other})
			}
			expectRefused(t, "open for index", bound, opened{o.index, o.open, version, value})
			expectRefused(t, "open for bound", o.open, o)
			expectRefused(t, "noughts", [32]byte{}, o)
		}
	}
}

func expectRefused(t *testing.T, why string, bound [32]byte, o opened) {
	t.Helper()
	if err := o.check(bound); err != api.ErrProof {
		t.Errorf("%s: version %d, %d bytes: %v", why, o.version, len(o.value), err)
	}
}

// others: values near one.
func others(value []byte) [][]byte {
	l := [][]byte{append(slices.Clone(value), 0), append([]byte{0}, value...), append(slices.Clone(value), value...)}
	for i := range value {
		other := slices.Clone(value)
		other[i] ^= 1
		l = append(l, other, slices.Delete(slices.Clone(value), i, i+1))
	}
	return slices.DeleteFunc(l, func(b []byte) bool { return bytes.Equal(b, value) })
}

// Texts are the two that the chapter names: the second has 96 bytes, and its sum is the bound value (P17.1).
func TestTexts(t *testing.T) {
	for _, o := range all() {
		got, want := o.texts(), o.wantTexts()
		if !slices.EqualFunc(got, want, bytes.Equal) {
			t.Fatalf("version %d, %d bytes: %.300x", o.version, len(o.value), got)
		}
		if len(got[0]) != 104+len(o.value) || len(got[1]) != 96 {
			t.Errorf("%d and %d bytes", len(got[0]), len(got[1]))
		}
		if inner := sha256.Sum256(got[0]); !bytes.Equal(got[1][64:], inner[:]) {
			t.Error("the second text hasn't the first one's sum")
		}
		bound := sha256.Sum256(got[1])
		if bound != o.bound() || o.check(bound) != api.OK {
			t.Error("the second text's sum isn't what is bound")
		}
	}
}

// Of two that are unlike, the second texts are, or they have one sum in them of two first texts that are: of one bound value, these are two texts of one sum (P17.2).
func TestUnlikeOnesHaveUnlikeTexts(t *testing.T) {
	var l []opened
	for _, version := range versions {
		for _, value := range values {
			if value != nil {
				l = append(l, opened{sum(1), sum(2), version, value})
			}
		}
	}
	for i := range 32 {
		o := opened{sum(1), sum(2), 0, nil}
		o.open[i] ^= 1
		l = append(l, o)
	}
	// What the version ends with and the value begins with may be the same bytes.
	l = append(l, opened{sum(1), sum(2), 0, make([]byte, 8)}, opened{sum(1), sum(2), 0, make([]byte, 9)}, opened{sum(1), sum(2), 1, make([]byte, 9)})
	texts := make([][][]byte, len(l))
	for i, o := range l {
		texts[i] = o.texts()
	}
	for i := range l {
		for j := range i {
			openings := bytes.Equal(texts[i][1][:64], texts[j][1][:64])
			if openings != (l[i].open == l[j].open) {
				t.Fatalf("%d and %d: the second texts tell another opening", i, j)
			}
			if openings && bytes.Equal(texts[i][0], texts[j][0]) {
				t.Fatalf("version %d, %d bytes, and %d, %d have the same texts", l[i].version, len(l[i].value), l[j].version, len(l[j].value))
			}
		}
	}
}

// A value is neither changed, its spare room neither, nor kept (P17.3).
func TestValueIsLeftAlone(t *testing.T) {
	for _, size := range []int{0, 1, 24, 64, 65, 200} {
		value := text(size)
		was := slices.Clone(value[:cap(value)])
		bound, open := commit.Make(sum(1), sum(2), 3, value)
		err := commit.Check(bound, open, sum(2), 3, value)
		texts := commit.Texts(open, sum(2), 3, value)
		if err != api.OK || !bytes.Equal(value[:cap(value)], was) {
			t.Errorf("a value of %d bytes: %v, %x", size, err, value)
		}
		clear(value[:cap(value)])
		o := opened{open, sum(2), 3, was[:size]}
		if !slices.EqualFunc(texts, o.wantTexts(), bytes.Equal) || o.check(bound) != api.OK {
			t.Errorf("a value of %d bytes is kept", size)
		}
	}
}

// Texts are new memory, and share none with each other, up to the end of their room (P17.3).
func TestTextsAreNew(t *testing.T) {
	for _, size := range []int{0, 1, 24, 64, 65, 200} {
		o := opened{sum(1), sum(2), 3, text(size)}
		was := slices.Clone(o.value[:cap(o.value)])
		for i := range 2 {
			first, second := o.texts(), o.texts()
			clear(first[i][:cap(first[i])])
			if !bytes.Equal(first[1-i], o.wantTexts()[1-i]) {
				t.Errorf("%d bytes: the texts of one answer share their memory", size)
			}
			clear(first[:cap(first)])
			if !slices.EqualFunc(second, o.wantTexts(), bytes.Equal) || !slices.EqualFunc(o.texts(), o.wantTexts(), bytes.Equal) {
				t.Errorf("%d bytes: two answers share their memory", size)
			}
		}
		if !bytes.Equal(o.value[:cap(o.value)], was) {
			t.Errorf("%d bytes: a text shares the value's memory", size)
		}
	}
}
