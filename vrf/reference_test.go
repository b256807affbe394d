package vrf_test

import (
	"crypto/sha512"
	"encoding/hex"
	"math/rand"
	"slices"
	"testing"

	"custumal/api"
	"custumal/edwards"
	"custumal/scalar"
	"custumal/sign"
	"custumal/vrf"
)

// What the document says of proofs, said once more, by the library's sums; and proofs as an honest prover never makes them.

// text: bytes that differ, with spare room behind them.
func text(size int) []byte {
	b := make([]byte, size, size+100)
	rand.New(rand.NewSource(int64(size))).Read(b[:cap(b)])
	return b
}

func ofHex(t *testing.T, text string) []byte {
	t.Helper()
	b, err := hex.DecodeString(text)
	if err != nil {
		t.Fatal(err)
	}
	return b
}

func encoded(p edwards.Point) []byte {
	b := p.Encode()
	return b[:]
}

func often(p edwards.Point, n scalar.Num) edwards.Point { return p.Times(scalar.Bytes(n)) }

func isSmall(p edwards.Point) bool { return p.Times([32]byte{8}) == edwards.Point{} }

// pointOf: a text's point, and by which count it came.
func pointOf(t *testing.T, public [32]byte, text []byte) (edwards.Point, int) {
	t.Helper()
	for c := range 256 {
		sum := sha512.Sum512(slices.Concat([]byte{3, 1}, public[:], text, []byte{byte(c), 0}))
		if p, err := edwards.Decode([32]byte(sum[:32])); err == api.OK && !isSmall(p) {
			return p.Times([32]byte{8}), c
		}
	}
	t.Fatal("no point")
	return edwards.Point{}, 0
}

// maker is one who makes proofs by a number.
type maker struct {
	x      scalar.Num
	public [32]byte
}

func makerOf(seed [32]byte) maker {
	secret := sign.Spread(seed)
	return maker{scalar.Of(secret.Number[:]), secret.Public}
}

// made: the proof that a text's point h so often is the point g, by k.
func (m maker) made(h, g edwards.Point, k scalar.Num) [vrf.Size]byte {
	u, v := often(edwards.Base(), k), often(h, k)
	sum := sha512.Sum512(slices.Concat([]byte{3, 2}, m.public[:], encoded(h), encoded(g), encoded(u), encoded(v), []byte{0}))
	c := sum[:16]
	s := scalar.Bytes(scalar.Add(k, scalar.Mul(scalar.Of(c), m.x)))
	return [vrf.Size]byte(slices.Concat(encoded(g), c, s[:]))
}

// honest: the proof of the document.
func honest(t *testing.T, seed [32]byte, text []byte) [vrf.Size]byte {
	t.Helper()
	m := makerOf(seed)
	h, _ := pointOf(t, m.public, text)
	draw := sha512.Sum512(seed[:])
	k := sha512.Sum512(slices.Concat(draw[32:], encoded(h)))
	return m.made(h, often(h, m.x), scalar.Of(k[:]))
}

// sumOf: what a proof with this point tells.
func sumOf(g edwards.Point) [64]byte {
	return sha512.Sum512(slices.Concat([]byte{3, 3}, encoded(g.Times([32]byte{8})), []byte{0}))
}

// pointIn: a proof's.
func pointIn(t *testing.T, proof [vrf.Size]byte) edwards.Point {
	t.Helper()
	g, err := edwards.Decode([32]byte(proof[:32]))
	if err != api.OK {
		t.Fatalf("%x begins with no point", proof)
	}
	return g
}

// small: the n-th of the eight points that eight times are the neutral one, which is the first.
func small(t *testing.T, n int) edwards.Point {
	t.Helper()
	p, err := edwards.Decode([32]byte(ofHex(t, "26e8958fc2b227b045c3f489f2ef98f0d5dfac05d3c63339b13802886d53fc05")))
	if err != api.OK {
		t.Fatal(err)
	}
	return p.Times([32]byte{byte(n)})
}

// noPoints: bytes of each kind that are no point's.
func noPoints(t *testing.T) (all [][32]byte) {
	for _, b := range []string{
		"0200000000000000000000000000000000000000000000000000000000000000", // no x
		"0100000000000000000000000000000000000000000000000000000000000080", // x is 0, and odd
		"ecffffffffffffffffffffffffffffffffffffffffffffffffffffffffffffff", // so too
		"edffffffffffffffffffffffffffffffffffffffffffffffffffffffffffff7f", // y is the prime
		"eeffffffffffffffffffffffffffffffffffffffffffffffffffffffffffff7f", // the prime and 1
		"ffffffffffffffffffffffffffffffffffffffffffffffffffffffffffffffff",
	} {
		all = append(all, [32]byte(ofHex(t, b)))
	}
	return all
}

// check: is that the answer, and is there a sum just where it is taken, that of the proof?
func check(t *testing.T, why string, public [32]byte, text []byte, proof [vrf.Size]byte, want api.Errno) {
	t.Helper()
	var sum [64]byte
	if want == api.OK {
		sum = sumOf(pointIn(t, proof))
	}
	if got, err := vrf.Check(public, text, proof); err != want || got != sum {
		t.Errorf("%s: %v, not %v; %x, not %x", why, err, want, got, sum)
	}
}
