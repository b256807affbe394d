package proof_test

import (
	"bytes"
	"encoding/binary"
	"math"
	"slices"
	"testing"

	"custumal/api"
	"custumal/codec"
	"custumal/path"
	"custumal/proof"
	"custumal/tree"
)

func written(t *testing.T, p proof.Proof) []byte {
	t.Helper()
	var w codec.Writer
	proof.Put(&w, p)
	b, err := w.Bytes()
	if err != api.OK {
		t.Fatalf("%d sums: %v", len(p.Sums), err)
	}
	return b
}

// some: proofs of each kind, as they come out of Take.
func some() []proof.Proof {
	all := proofs(keyOf(1))
	for _, leaves := range lists() {
		for _, k := range asked(leaves) {
			all = append(all, proof.Prove(tree.Of(leaves), k))
		}
	}
	return append(all, proof.Proof{There: true})
}

// A proof's bytes are the count of sums, these, There, and the end if it is there (P15.1); they are taken again.
func TestPutAndTake(t *testing.T) {
	for _, p := range some() {
		b := written(t, p)
		if !bytes.Equal(b, bytesOf(p)) {
			t.Fatalf("%d sums, %v: %.200x", len(p.Sums), p.There, b)
		}
		r := codec.Read(b)
		if got, err := proof.Take(r); err != api.OK || !equal(got, p) || r.End() != api.OK {
			t.Fatalf("%d sums, %v: %v, %v", len(p.Sums), p.There, got, err)
		}
	}
}

// The bytes of a small proof, written out (P15.1).
func TestBytes(t *testing.T) {
	sum := [32]byte{0xaa, 31: 0xbb}
	end := tree.Leaf{Key: path.Key{0xcc, 31: 0xdd}, Value: [32]byte{0xee, 31: 0xff}}
	middle := string(make([]byte, 30))
	for _, c := range []struct {
		p    proof.Proof
		want string
	}{
		{proof.Proof{}, "\x00\x00\x00\x00\x00\x00\x00\x00\x00"},
		{proof.Proof{End: end}, "\x00\x00\x00\x00\x00\x00\x00\x00\x00"},
		{proof.Proof{Sums: [][32]byte{sum}}, "\x00\x00\x00\x00\x00\x00\x00\x01\xaa" + middle + "\xbb\x00"},
		{proof.Proof{There: true, End: end}, "\x00\x00\x00\x00\x00\x00\x00\x00\x01\xcc" + middle + "\xdd\xee" + middle + "\xff"},
	} {
		if b := written(t, c.p); string(b) != c.want {
			t.Errorf("%x, not %x", b, c.want)
		}
	}
}

// An end that isn't there isn't written, nor is anything of it taken (P15.1).
func TestEndThatIsNotThere(t *testing.T) {
	p := proof.Proof{Sums: sums(1, 3), End: tree.Leaf{Key: keyOf(1), Value: [32]byte{1}}}
	got, err := proof.Take(codec.Read(written(t, p)))
	if err != api.OK || !equal(got, proof.Proof{Sums: p.Sums}) {
		t.Errorf("%v, %v", got, err)
	}
}

// Put writes behind what there is, and Take leaves what stands behind (P15.1).
func TestAmongOtherParts(t *testing.T) {
	for _, p := range some()[:50] {
		var w codec.Writer
		w.Text([]byte("ahead"))
		proof.Put(&w, p)
		proof.Put(&w, proof.Proof{Sums: sums(4, 2)})
		w.Byte(77)
		b, _ := w.Bytes()
		r := codec.Read(b)
		r.Text(5)
		first, err := proof.Take(r)
		second, other := proof.Take(r)
		if err != api.OK || other != api.OK || !equal(first, p) || !equal(second, proof.Proof{Sums: sums(4, 2)}) {
			t.Fatalf("%v, %v; %v, %v", first, err, second, other)
		}
		if r.Left() != 1 || r.Byte() != 77 || r.End() != api.OK {
			t.Fatal("what stands behind is not left")
		}
	}
}

// A proof of more than 256 sums is written, but not taken (P15.1).
func TestTooManyAsBytes(t *testing.T) {
	for _, n := range []int{257, 300, 1000} {
		p := proof.Proof{Sums: sums(1, n), There: true, End: tree.Leaf{Key: keyOf(1)}}
		b := written(t, p)
		if !bytes.Equal(b, bytesOf(p)) {
			t.Errorf("%d sums: %d bytes", n, len(b))
		}
		expectRefused(t, "too many", codec.Read(b), api.ErrBig)
	}
}

func expectRefused(t *testing.T, why string, r *codec.Reader, want api.Errno) {
	t.Helper()
	if got, err := proof.Take(r); err != want || !equal(got, proof.Proof{}) {
		t.Errorf("%s: %v, %v; not %v", why, got, err, want)
	}
}

// A count that isn't 0 to 256 is ErrBig, whatever stands behind it (P15.1).
func TestCounts(t *testing.T) {
	for _, n := range []int{257, 258, 512, 65536, 1 << 32, 1 << 40, math.MaxInt, -1, -256, -257, math.MinInt, math.MinInt + 1} {
		b := binary.BigEndian.AppendUint64(nil, uint64(n))
		expectRefused(t, "a count alone", codec.Read(b), api.ErrBig)
		expectRefused(t, "a count and some bytes", codec.Read(append(b, make([]byte, 50)...)), api.ErrBig)
		expectRefused(t, "a count and many bytes", codec.Read(append(b, make([]byte, 40*300)...)), api.ErrBig)
	}
	for _, n := range []int{1, 2, 255, 256} {
		b := binary.BigEndian.AppendUint64(nil, uint64(n))
		expectRefused(t, "a count alone", codec.Read(b), api.ErrShort)
		if got, err := proof.Take(codec.Read(append(b, make([]byte, 32*n+1)...))); err != api.OK || len(got.Sums) != n {
			t.Errorf("%d sums of noughts: %d, %v", n, len(got.Sums), err)
		}
	}
}

// Bytes that end too soon are ErrShort, wherever (P15.1).
func TestShort(t *testing.T) {
	k := keyOf(2)
	for _, p := range []proof.Proof{{}, {Sums: sums(1, 3)}, {There: true, End: tree.Leaf{Key: k}}, {Sums: sums(1, 2), There: true, End: tree.Leaf{Key: k}}} {
		b := bytesOf(p)
		for n := range b {
			expectRefused(t, "too soon", codec.Read(b[:n]), api.ErrShort)
		}
	}
}

// There must be 0 or 1 (P15.1).
func TestNoFlag(t *testing.T) {
	for _, p := range []proof.Proof{{}, {Sums: sums(1, 3)}, {There: true, End: tree.Leaf{Key: keyOf(2)}}} {
		for _, flag := range []byte{2, 3, 128, 255} {
			b := bytesOf(p)
			b[8+32*len(p.Sums)] = flag
			expectRefused(t, "no flag", codec.Read(b), api.ErrForm)
			expectRefused(t, "no flag, and more behind", codec.Read(append(b, 1, 2, 3)), api.ErrForm)
		}
	}
}

// A reader's error that was there ahead is Take's, and a nil reader's is ErrArg (P15.1).
func TestReadersError(t *testing.T) {
	b := bytesOf(proof.Proof{There: true, End: tree.Leaf{Key: keyOf(2)}})
	form := codec.Read(append([]byte{7}, b...))
	form.Flag()
	expectRefused(t, "behind no flag", form, api.ErrForm)
	big := codec.Read(b)
	big.Num()
	big.Text(1)
	expectRefused(t, "behind a long text", big, api.ErrBig)
	short := codec.Read(b)
	short.Text(len(b))
	short.Num()
	for short.End() != api.ErrShort {
		short.Sum()
	}
	expectRefused(t, "behind too few bytes", short, api.ErrShort)
	expectRefused(t, "of no reader", nil, api.ErrArg)
	expectRefused(t, "of nothing", codec.Read(nil), api.ErrShort)
}

// Neither bytes nor a proof are changed or kept; what is taken is new memory (P15.4).
func TestBytesAreLeftAlone(t *testing.T) {
	for _, p := range some() {
		given := copyOf(p)
		var w codec.Writer
		proof.Put(&w, given)
		if !same(given, copyOf(p)) {
			t.Fatal("a proof is changed")
		}
		for i := range given.Sums {
			given.Sums[i] = [32]byte{0xee}
		}
		b, _ := w.Bytes()
		if !bytes.Equal(b, bytesOf(p)) {
			t.Fatal("a proof is kept")
		}
		r := codec.Read(slices.Concat(b, b))
		first, _ := proof.Take(r)
		room := first.Sums[:cap(first.Sums)]
		for i := range room {
			room[i] = [32]byte{0xee}
		}
		second, err := proof.Take(r)
		if err != api.OK || !equal(second, p) {
			t.Fatal("what is taken shares its memory")
		}
	}
}
