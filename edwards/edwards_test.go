package edwards_test

import (
	"crypto/ed25519"
	"crypto/sha512"
	"math/big"
	"math/rand"
	"testing"

	"custumal/api"
	"custumal/edwards"
)

// The neutral point, which is the zero value, and the base (P7.1).
func TestNeutralAndBase(t *testing.T) {
	want := [32]byte{1}
	if b := (edwards.Point{}).Encode(); b != want {
		t.Errorf("the neutral point: %x", b)
	}
	if p, err := edwards.Decode(want); err != api.OK || !p.Same(edwards.Point{}) {
		t.Errorf("the neutral point's bytes: %v", err)
	}
	want[0] = 0x58
	for i := range want[1:] {
		want[i+1] = 0x66
	}
	if b := edwards.Base().Encode(); b != want || b != asBytes(over(big.NewInt(4), big.NewInt(5))) {
		t.Errorf("the base: %x", b)
	}
	if p, err := edwards.Decode(want); err != api.OK || !p.Same(edwards.Base()) {
		t.Errorf("the base's bytes: %v", err)
	}
}

// Add, of like and unlike points, small ones and the neutral one among them (P7.1).
func TestAdd(t *testing.T) {
	all := some(t)
	for _, p := range all {
		for _, q := range all {
			both{p.point.Add(q.point), p.pair.add(q.pair)}.check(t, "Add")
		}
		if !p.point.Add(edwards.Point{}).Same(p.point) || !(edwards.Point{}).Add(p.point).Same(p.point) {
			t.Errorf("%x: changed by the neutral point", p.point.Encode())
		}
	}
}

// Neg: with it a point makes the neutral one (P7.1).
func TestNeg(t *testing.T) {
	for _, p := range some(t) {
		both{p.point.Neg(), pair{minus(p.pair.x), p.pair.y}}.check(t, "Neg")
		if !p.point.Add(p.point.Neg()).Same(edwards.Point{}) || !p.point.Neg().Neg().Same(p.point) {
			t.Errorf("Neg of %x: %x", p.point.Encode(), p.point.Neg().Encode())
		}
	}
}

// Eight, which makes the neutral point of the small ones, and of no others (P7.1).
func TestEight(t *testing.T) {
	for i, p := range some(t) {
		both{p.point.Eight(), p.pair.often(big.NewInt(8))}.check(t, "Eight")
		if p.point.Eight().Same(edwards.Point{}) != (i < 8) {
			t.Errorf("Eight of %x: %x", p.point.Encode(), p.point.Eight().Encode())
		}
	}
}

// Times takes any 256 bits: small numbers, those at and beyond the order, and the most (P7.1).
func TestTimes(t *testing.T) {
	numbers := []*big.Int{
		power(64), power(128), power(252), power(255), beside(power(256), -1), beside(order, -1), order, beside(order, 1),
		new(big.Int).Lsh(order, 1), new(big.Int).Lsh(order, 3), beside(new(big.Int).Lsh(order, 3), 5),
	}
	for n := range int64(34) {
		numbers = append(numbers, big.NewInt(n))
	}
	r := rand.New(rand.NewSource(2))
	for range 10 {
		numbers = append(numbers, new(big.Int).Rand(r, power(256)))
	}
	all := some(t)
	for _, p := range []both{all[0], all[1], all[4], all[8], all[9], all[10], all[len(all)-1]} {
		for _, n := range numbers {
			both{p.point.Times(asBytes(n)), p.pair.often(n)}.check(t, "Times "+n.Text(16))
		}
	}
}

// Times is Add so often; the order isn't taken off, as it makes a point with a small one beside it another point (P7.1).
func TestTimesIsAddSoOften(t *testing.T) {
	for i, p := range some(t) {
		sum := edwards.Point{}
		for n := range 40 {
			if !p.point.Times([32]byte{byte(n)}).Same(sum) {
				t.Errorf("%d times %x", n, p.point.Encode())
			}
			sum = sum.Add(p.point)
		}
		whole := p.point.Times(asBytes(order))
		both{whole, p.pair.often(order)}.check(t, "Times the order")
		if i > 0 && i < 8 && whole.Same(edwards.Point{}) {
			t.Errorf("the order's times %x: %x", p.point.Encode(), whole.Encode())
		}
	}
}

// Public bytes of the standard, as the library makes them (P2, P7.1).
func TestPublicBytes(t *testing.T) {
	r := rand.New(rand.NewSource(3))
	for range 50 {
		seed := make([]byte, ed25519.SeedSize)
		r.Read(seed)
		sum := sha512.Sum512(seed)
		number := [32]byte(sum[:32])
		number[0] &= 0xf8
		number[31] = number[31]&0x7f | 0x40
		want := [32]byte(ed25519.NewKeyFromSeed(seed).Public().(ed25519.PublicKey))
		if got := edwards.Base().Times(number).Encode(); got != want {
			t.Errorf("seed %x: %x", seed, got)
		}
	}
}

// Same: just one pair is the same as one, on whatever way it came about (P7.1).
func TestSame(t *testing.T) {
	all := some(t)
	for i, p := range all {
		for j, q := range all {
			if p.point.Same(q.point) != (i == j) {
				t.Errorf("%x and %x: not %v", p.point.Encode(), q.point.Encode(), i == j)
			}
			if !p.point.Add(q.point).Same(q.point.Add(p.point)) || !p.point.Add(q.point).Add(q.point.Neg()).Same(p.point) {
				t.Errorf("%x and %x: not the same on two ways", p.point.Encode(), q.point.Encode())
			}
		}
		if x := p.pair.x.Sign() == 0; p.point.Same(p.point.Neg()) != x {
			t.Errorf("%x and Neg of it: not %v", p.point.Encode(), x)
		}
	}
}

// candidates: bytes at the ends of y, those that aren't below the prime, and all over; x even and odd.
func candidates() [][32]byte {
	var ys []*big.Int
	for n := range int64(60) {
		ys = append(ys, big.NewInt(n), beside(prime, -n))
	}
	for n := range int64(19) { // all numbers of 255 bits that aren't below the prime
		ys = append(ys, beside(prime, n))
	}
	r := rand.New(rand.NewSource(4))
	for range 300 {
		ys = append(ys, new(big.Int).Rand(r, power(255)))
	}
	var all [][32]byte
	for _, y := range ys {
		all = append(all, asBytes(y), odd(asBytes(y)))
	}
	return all
}

// Decode takes just the bytes that are a point's; those of no point give no other answer (P7.1).
func TestDecode(t *testing.T) {
	count := map[api.Errno]int{}
	for _, b := range candidates() {
		p, err := edwards.Decode(b)
		q, ok := decode(b)
		want := api.OK
		if !ok {
			q, want = neutral(), api.ErrPoint
		}
		if err != want || p.Encode() != q.encode() {
			t.Errorf("Decode of %x: %x, %v", b, p.Encode(), err)
		}
		count[err]++
	}
	if count[api.OK] == 0 || count[api.ErrPoint] == 0 {
		t.Errorf("not each kind of answer came about: %v", count)
	}
}

// Each of the ways in which bytes are no point, by itself (P7.1).
func TestDecodeRefuses(t *testing.T) {
	for _, c := range []struct {
		why string
		b   [32]byte
	}{
		{"x is 0 and odd, y 1", odd(asBytes(one))},
		{"x is 0 and odd, y -1", odd(asBytes(beside(prime, -1)))},
		{"no x", asBytes(big.NewInt(2))},
		{"no x, odd", odd(asBytes(big.NewInt(2)))},
		{"y is the prime", asBytes(prime)},
		{"y is the prime, odd", odd(asBytes(prime))},
		{"y is the prime and 1", asBytes(beside(prime, 1))},
		{"y is the prime and 3", asBytes(beside(prime, 3))},
		{"y is 2^255 - 1", asBytes(beside(power(255), -1))},
		{"all bits", odd(asBytes(beside(power(255), -1)))},
	} {
		if p, err := edwards.Decode(c.b); err != api.ErrPoint || p != (edwards.Point{}) {
			t.Errorf("%s: %x, %v", c.why, p.Encode(), err)
		}
	}
	for _, y := range []*big.Int{new(big.Int), one, big.NewInt(3), beside(prime, -1)} {
		if _, err := edwards.Decode(asBytes(y)); err != api.OK {
			t.Errorf("y is %v: %v", y, err)
		}
	}
}

// A point comes back from its bytes, and no other bytes are its (P7.2).
func TestOwnBytes(t *testing.T) {
	for _, p := range some(t) {
		for _, p := range []edwards.Point{p.point, p.point.Neg(), p.point.Add(edwards.Base())} {
			b := p.Encode()
			if back, err := edwards.Decode(b); err != api.OK || !back.Same(p) {
				t.Errorf("%x doesn't come back: %v", b, err)
			}
			for bit := range 256 {
				other := b
				other[bit/8] ^= 1 << (bit % 8)
				if q, err := edwards.Decode(other); err == api.OK && (q.Same(p) || q.Encode() != other) {
					t.Errorf("%x is told as %x too", b, other)
				}
			}
		}
	}
	for _, b := range candidates() {
		if p, err := edwards.Decode(b); err == api.OK && p.Encode() != b {
			t.Errorf("%x is told as %x too", p.Encode(), b)
		}
	}
}

// What is asked of a point leaves it as it is (rule 4).
func TestPointsStay(t *testing.T) {
	for _, p := range some(t) {
		before, q := p.point, edwards.Base()
		p.point.Add(q)
		p.point.Neg()
		p.point.Times([32]byte{31: 255})
		p.point.Eight()
		p.point.Same(q)
		p.point.Encode()
		if !p.point.Same(before) || p.point.Encode() != p.pair.encode() || !q.Same(edwards.Base()) {
			t.Errorf("%x: changed", p.pair.encode())
		}
	}
}
