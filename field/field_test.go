package field_test

import (
	"math"
	"math/big"
	"math/rand"
	"testing"

	"custumal/field"
)

var prime = new(big.Int).Sub(power(255), big.NewInt(19))

func power(n uint) *big.Int { return new(big.Int).Lsh(big.NewInt(1), n) }

// beside: n and a small number, or one that is taken away.
func beside(n *big.Int, small int64) *big.Int { return new(big.Int).Add(n, big.NewInt(small)) }

func modulo(n *big.Int) *big.Int { return new(big.Int).Mod(n, prime) }

// number: of the parts, not modulo anything.
func number(a [4]uint64) *big.Int {
	n := new(big.Int)
	for i := 3; i >= 0; i-- {
		n.Add(n.Lsh(n, 64), new(big.Int).SetUint64(a[i]))
	}
	return n
}

// parts: of a number below 2^256.
func parts(n *big.Int) (a [4]uint64) {
	word := new(big.Int).SetUint64(math.MaxUint64)
	for i := range a {
		a[i] = new(big.Int).And(new(big.Int).Rsh(n, uint(64*i)), word).Uint64()
	}
	return a
}

// asBytes: the lowest first.
func asBytes(n *big.Int) (b [32]byte) {
	n.FillBytes(b[:])
	for i := range 16 {
		b[i], b[31-i] = b[31-i], b[i]
	}
	return b
}

// edges: numbers at and beyond the prime, its double, and the ends of parts and of all four.
func edges() []field.Elem {
	var all []field.Elem
	for small := int64(-40); small <= 40; small++ {
		for _, n := range []*big.Int{
			new(big.Int), prime, new(big.Int).Lsh(prime, 1), power(64), power(128), power(192), power(255), power(256),
			new(big.Int).Rsh(prime, 1),
		} {
			if n = beside(n, small); n.Sign() >= 0 && n.BitLen() <= 256 {
				all = append(all, parts(n))
			}
		}
	}
	return all
}

// corners: each part is nought, one, half of all, or the most.
func corners() []field.Elem {
	var all []field.Elem
	words := [4]uint64{0, 1, 1 << 63, math.MaxUint64}
	for i := range 256 {
		all = append(all, field.Elem{words[i&3], words[i>>2&3], words[i>>4&3], words[i>>6]})
	}
	return all
}

func random(seed int64, count int) []field.Elem {
	r := rand.New(rand.NewSource(seed))
	all := make([]field.Elem, count)
	for i := range all {
		all[i] = field.Elem{r.Uint64(), r.Uint64(), r.Uint64(), r.Uint64()}
	}
	return all
}

func numbers() []field.Elem {
	return append(append(edges(), corners()...), random(1, 200)...)
}

// check: is the answer that number, modulo the prime and below it?
func check(t *testing.T, call string, got field.Elem, want *big.Int, of ...field.Elem) {
	t.Helper()
	if number(got).Cmp(modulo(want)) != 0 {
		t.Errorf("%s of %x: %x, not %x", call, of, got, parts(modulo(want)))
	}
}

// The examples of the document (P5.1).
func TestExamples(t *testing.T) {
	two, three := field.Small(2), field.Small(3)
	check(t, "Sub", field.Sub(two, three), beside(prime, -1), two, three)
	if got := field.Mul(two, field.Inv(two)); got != (field.Elem{1}) {
		t.Errorf("2 times Inv(2): %x", got)
	}
}

// Bytes are a number without its highest bit; they need not be below the prime (P5.1).
func TestOf(t *testing.T) {
	for _, a := range numbers() {
		low := new(big.Int).Mod(number(a), power(255))
		check(t, "Of", field.Of(asBytes(number(a))), low, a)
	}
	if got := field.Of([32]byte{1, 2, 8: 3, 30: 4, 31: 0x85}); got != (field.Elem{0x201, 3, 0, 0x0504000000000000}) {
		t.Errorf("Of some bytes: %x", got)
	}
}

// Bytes, Rest, Odd and Neg take any four parts (P5.1).
func TestCallsOfOne(t *testing.T) {
	for _, a := range numbers() {
		rest := modulo(number(a))
		check(t, "Rest", field.Rest(a), rest, a)
		check(t, "Neg", field.Neg(a), new(big.Int).Neg(rest), a)
		if got := field.Bytes(a); got != asBytes(rest) {
			t.Errorf("Bytes of %x: %x", a, got)
		}
		if field.Of(field.Bytes(a)) != field.Rest(a) {
			t.Errorf("%x: not the same from its bytes", a)
		}
		if field.Odd(a) != (rest.Bit(0) == 1) {
			t.Errorf("Odd of %x: %v", a, field.Odd(a))
		}
	}
	for _, n := range []uint64{0, 1, 2, 19, 121666, 1 << 63, math.MaxUint64} {
		if field.Small(n) != (field.Elem{n}) {
			t.Errorf("Small of %d: %x", n, field.Small(n))
		}
	}
}

// Add, Sub and Mul take any four parts (P5.1).
func TestCallsOfTwo(t *testing.T) {
	all := numbers()
	for i, a := range all {
		x := number(a)
		for j := i % 3; j < len(all); j += 3 {
			b := all[j]
			y := number(b)
			check(t, "Add", field.Add(a, b), new(big.Int).Add(x, y), a, b)
			check(t, "Sub", field.Sub(a, b), new(big.Int).Sub(x, y), a, b)
			check(t, "Mul", field.Mul(a, b), new(big.Int).Mul(x, y), a, b)
		}
	}
}

// Two are the same if the prime, taken so often as it goes, makes them so (P5.1).
func TestSame(t *testing.T) {
	for _, a := range numbers() {
		rest := modulo(number(a))
		for n := rest; n.BitLen() <= 256; n = new(big.Int).Add(n, prime) {
			if b := parts(n); !field.Same(a, b) || !field.Same(b, a) {
				t.Errorf("%x and %x are the same", a, b)
			}
		}
		for bit := range 256 {
			b := a
			b[bit/64] ^= 1 << (bit % 64)
			want := modulo(number(b)).Cmp(rest) == 0
			if field.Same(a, b) != want || field.Same(b, a) != want {
				t.Errorf("%x and %x: not %v", a, b, want)
			}
		}
	}
}

// Pow takes any four parts as a power too; to the nought all are 1 (P5.1).
func TestPow(t *testing.T) {
	powers := []*big.Int{
		new(big.Int), big.NewInt(1), big.NewInt(2), big.NewInt(15), big.NewInt(16), big.NewInt(17),
		power(63), power(64), power(128), power(192), power(255), beside(power(256), -1),
		beside(prime, -2), beside(prime, -1), prime, beside(prime, 1), new(big.Int).Rsh(prime, 1),
	}
	for _, n := range random(2, 10) {
		powers = append(powers, number(n))
	}
	bases := append(random(3, 10),
		field.Elem{}, field.Elem{1}, field.Elem{2}, parts(beside(prime, -1)), parts(prime), parts(beside(prime, 1)),
		parts(new(big.Int).Lsh(prime, 1)), parts(beside(power(256), -1)))
	for _, a := range bases {
		for _, n := range powers {
			check(t, "Pow", field.Pow(a, parts(n)), new(big.Int).Exp(modulo(number(a)), n, prime), a, parts(n))
		}
	}
}

// With Inv of it a number makes 1, and nought's is nought, however it is told (P5.1).
func TestInv(t *testing.T) {
	for _, a := range append(edges(), random(4, 20)...) {
		want := new(big.Int).Exp(modulo(number(a)), beside(prime, -2), prime)
		check(t, "Inv", field.Inv(a), want, a)
		made := field.Mul(a, field.Inv(a))
		if modulo(number(a)).Sign() == 0 {
			check(t, "Mul with Inv", made, new(big.Int), a)
		} else {
			check(t, "Mul with Inv", made, big.NewInt(1), a)
		}
	}
}

// root: as the document makes it.
func root(u, v *big.Int) (*big.Int, bool) {
	eighth := new(big.Int).Rsh(beside(prime, -5), 3)
	x := new(big.Int).Exp(v, big.NewInt(7), prime)
	x.Exp(x.Mul(x, u), eighth, prime)
	x.Mul(x, new(big.Int).Exp(v, big.NewInt(3), prime))
	x.Mod(x.Mul(x, u), prime)
	made := modulo(new(big.Int).Mul(v, new(big.Int).Mul(x, x)))
	turn := new(big.Int).Exp(big.NewInt(2), new(big.Int).Rsh(beside(prime, -1), 2), prime)
	switch {
	case made.Cmp(modulo(u)) == 0:
		return x, true
	case made.Cmp(modulo(new(big.Int).Neg(u))) == 0:
		return modulo(x.Mul(x, turn)), true
	}
	return new(big.Int), false
}

// Root finds just the one that the document says, and none where there is none (P5.1).
func TestRoot(t *testing.T) {
	nought, one, top := field.Elem{}, field.Elem{1}, parts(beside(power(256), -1))
	some := append(random(5, 12), nought, one, field.Elem{2}, field.Elem{4}, parts(beside(prime, -1)), parts(prime),
		parts(beside(prime, 1)), parts(new(big.Int).Lsh(prime, 1)), top)
	count := map[bool]int{}
	for _, u := range some {
		for _, v := range some {
			// Squares times v too, and what they are below nought, so that each kind of answer comes about.
			square := field.Mul(v, field.Mul(u, u))
			for _, u := range []field.Elem{u, square, field.Neg(square), field.Mul(square, field.Small(2))} {
				x, found := field.Root(u, v)
				want, there := root(modulo(number(u)), modulo(number(v)))
				check(t, "Root", x, want, u, v)
				if found != there {
					t.Errorf("Root of %x, %x: %v", u, v, found)
				}
				if found && !field.Same(field.Mul(v, field.Mul(x, x)), u) {
					t.Errorf("Root of %x, %x: %x is none", u, v, x)
				}
				if !found && modulo(number(v)).Sign() != 0 && big.Jacobi(modulo(number(field.Mul(u, v))), prime) != -1 {
					t.Errorf("Root of %x, %x: there is one", u, v)
				}
				count[found]++
			}
		}
	}
	if count[true] == 0 || count[false] == 0 {
		t.Error("not each kind of answer came about")
	}
}

// Where there is no root beside nought, or all are, the answer is nought (P5.1).
func TestRootAtNought(t *testing.T) {
	for _, nought := range []field.Elem{{}, parts(prime), parts(new(big.Int).Lsh(prime, 1))} {
		for _, a := range []field.Elem{{1}, {2}, parts(beside(prime, -1))} {
			if x, found := field.Root(nought, a); x != (field.Elem{}) || !found {
				t.Errorf("Root of %x, %x: %x, %v", nought, a, x, found)
			}
			if x, found := field.Root(a, nought); x != (field.Elem{}) || found {
				t.Errorf("Root of %x, %x: %x, %v", a, nought, x, found)
			}
		}
		if x, found := field.Root(nought, nought); x != (field.Elem{}) || !found {
			t.Errorf("Root of %x twice: %x, %v", nought, x, found)
		}
	}
}
