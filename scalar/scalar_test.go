package scalar_test

import (
	"bytes"
	"math"
	"math/big"
	"math/rand"
	"slices"
	"testing"

	"custumal/scalar"
)

var order = func() *big.Int {
	n, _ := new(big.Int).SetString("27742317777372353535851937790883648493", 10)
	return n.Add(n, power(252))
}()

func power(n uint) *big.Int { return new(big.Int).Lsh(big.NewInt(1), n) }

// beside: n and a small number, or one that is taken away.
func beside(n *big.Int, small int64) *big.Int { return new(big.Int).Add(n, big.NewInt(small)) }

func modulo(n *big.Int) *big.Int { return new(big.Int).Mod(n, order) }

// number: of the parts, not modulo anything.
func number(a scalar.Num) *big.Int {
	n := new(big.Int)
	for i := 3; i >= 0; i-- {
		n.Add(n.Lsh(n, 64), new(big.Int).SetUint64(a[i]))
	}
	return n
}

// parts: of a number below 2^256.
func parts(n *big.Int) (a scalar.Num) {
	word := new(big.Int).SetUint64(math.MaxUint64)
	for i := range a {
		a[i] = new(big.Int).And(new(big.Int).Rsh(n, uint(64*i)), word).Uint64()
	}
	return a
}

// asBytes: the lowest first.
func asBytes(n *big.Int) (b [32]byte) {
	n.FillBytes(b[:])
	slices.Reverse(b[:])
	return b
}

// ofBytes: of bytes, the lowest first, as a number.
func ofBytes(b []byte) *big.Int {
	b = slices.Clone(b)
	slices.Reverse(b)
	return new(big.Int).SetBytes(b)
}

// numbers: at and beyond the order, so often as it goes, the ends of parts, and all over.
func numbers() []scalar.Num {
	around := []*big.Int{power(64), power(128), power(192), power(252), power(253), power(255), power(256)}
	for times := range int64(16) {
		around = append(around, new(big.Int).Mul(order, big.NewInt(times)))
		around = append(around, new(big.Int).Mul(power(252), big.NewInt(times)))
	}
	var all []scalar.Num
	for _, n := range around {
		for small := int64(-2); small <= 2; small++ {
			if n := beside(n, small); n.Sign() >= 0 && n.BitLen() <= 256 {
				all = append(all, parts(n))
			}
		}
	}
	words := [4]uint64{0, 1, 1 << 63, math.MaxUint64}
	r := rand.New(rand.NewSource(1))
	for i := range 256 {
		all = append(all, scalar.Num{words[i&3], words[i>>2&3], words[i>>4&3], words[i>>6]})
		all = append(all, scalar.Num{r.Uint64(), r.Uint64(), r.Uint64(), r.Uint64()})
	}
	return all
}

// check: is the answer that number, modulo the order and below it?
func check(t *testing.T, call string, got scalar.Num, want *big.Int, of ...any) {
	t.Helper()
	if number(got).Cmp(modulo(want)) != 0 {
		t.Errorf("%s of %x: %x, not %x", call, of, got, parts(modulo(want)))
	}
}

// The examples of the document, and the order (P6.1).
func TestExamples(t *testing.T) {
	if got := scalar.Order(); number(got).Cmp(order) != 0 {
		t.Errorf("Order: %x", got)
	}
	if got := scalar.Add(scalar.Order(), scalar.Num{1}); got != (scalar.Num{1}) {
		t.Errorf("Add of Order, 1: %x", got)
	}
	check(t, "Neg", scalar.Neg(scalar.Num{1}), beside(order, -1), 1)
}

// Bytes and Neg take any four parts (P6.1).
func TestCallsOfOne(t *testing.T) {
	for _, a := range numbers() {
		rest := modulo(number(a))
		check(t, "Neg", scalar.Neg(a), new(big.Int).Neg(rest), a)
		if got := scalar.Bytes(a); got != asBytes(rest) {
			t.Errorf("Bytes of %x: %x", a, got)
		}
	}
}

// Add and Mul take any four parts (P6.1).
func TestCallsOfTwo(t *testing.T) {
	all := numbers()
	for i, a := range all {
		x := number(a)
		for j := i % 7; j < len(all); j += 7 {
			b := all[j]
			y := number(b)
			check(t, "Add", scalar.Add(a, b), new(big.Int).Add(x, y), a, b)
			check(t, "Mul", scalar.Mul(a, b), new(big.Int).Mul(x, y), a, b)
		}
	}
}

// However many bytes there are, they are one number, the lowest first (P6.1).
func TestOf(t *testing.T) {
	for _, a := range numbers() {
		b := asBytes(number(a))
		check(t, "Of", scalar.Of(b[:]), number(a), b)
	}
	r := rand.New(rand.NewSource(2))
	for size := range 200 {
		b := make([]byte, size)
		r.Read(b)
		check(t, "Of", scalar.Of(b), ofBytes(b), b)
		for i := range b {
			b[i] = 0xff
		}
		check(t, "Of", scalar.Of(b), ofBytes(b), b)
		if size > 0 {
			clear(b[:size-1])
			b[size-1] = 1
			check(t, "Of", scalar.Of(b), power(uint(8*size-8)), b)
		}
	}
	long := make([]byte, 100001)
	r.Read(long)
	check(t, "Of", scalar.Of(long), ofBytes(long), "many bytes")
	if scalar.Of(nil) != (scalar.Num{}) || scalar.Of([]byte{}) != (scalar.Num{}) {
		t.Error("Of no bytes isn't nought")
	}
}

// What is handed in stays as it was, its spare room too, and isn't kept (P6.1; rule 4).
func TestOfLeavesItsBytes(t *testing.T) {
	b := make([]byte, 64, 100)
	rand.New(rand.NewSource(3)).Read(b[:cap(b)])
	before := slices.Clone(b[:cap(b)])
	a := scalar.Of(b)
	if !bytes.Equal(b[:cap(b)], before) {
		t.Error("changed")
	}
	clear(b)
	check(t, "Of", a, ofBytes(before[:64]))
}

// Canon takes each number below the order, and none at it or beyond (P6.1).
func TestCanon(t *testing.T) {
	count := map[bool]int{}
	for _, a := range numbers() {
		below := number(a).Cmp(order) < 0
		want := scalar.Num{}
		if below {
			want = a
		}
		if got, ok := scalar.Canon(asBytes(number(a))); got != want || ok != below {
			t.Errorf("Canon of %x: %x, %v", a, got, ok)
		}
		count[below]++
	}
	if count[true] == 0 || count[false] == 0 {
		t.Error("not each kind of answer came about")
	}
	for _, a := range []scalar.Num{{}, {1}, parts(beside(order, -1))} {
		if got, ok := scalar.Canon(scalar.Bytes(a)); got != a || !ok {
			t.Errorf("Canon of the bytes of %x: %x, %v", a, got, ok)
		}
	}
	for _, n := range []*big.Int{order, beside(order, 1), power(253), power(255), beside(power(256), -1)} {
		if got, ok := scalar.Canon(asBytes(n)); got != (scalar.Num{}) || ok {
			t.Errorf("Canon of %x: %x, %v", n, got, ok)
		}
	}
}

// Clamp sets five bits, and leaves all others (P6.1).
func TestClamp(t *testing.T) {
	r := rand.New(rand.NewSource(4))
	for first := range 256 {
		for last := range 256 {
			var b [32]byte
			r.Read(b[:])
			b[0], b[31] = byte(first), byte(last)
			want := b
			want[0] = byte(first / 8 * 8)
			want[31] = byte(last%64 + 64)
			if got := scalar.Clamp(b); got != want {
				t.Fatalf("Clamp of %x: %x", b, got)
			}
		}
	}
}
