package edwards_test

import (
	"encoding/hex"
	"math/big"
	"math/rand"
	"slices"
	"testing"

	"custumal/api"
	"custumal/edwards"
)

// What the document says of points, worked out by the library's big numbers.

var (
	prime = new(big.Int).Sub(power(255), big.NewInt(19))
	one   = big.NewInt(1)
	// bend is the curve's d.
	bend = over(big.NewInt(-121665), big.NewInt(121666))
	// order is the base's.
	order = func() *big.Int {
		n, _ := new(big.Int).SetString("27742317777372353535851937790883648493", 10)
		return n.Add(n, power(252))
	}()
)

func power(n uint) *big.Int { return new(big.Int).Lsh(big.NewInt(1), n) }

// beside: n and a small number, or one that is taken away.
func beside(n *big.Int, small int64) *big.Int { return new(big.Int).Add(n, big.NewInt(small)) }

func plus(a, b *big.Int) *big.Int { return modulo(new(big.Int).Add(a, b)) }

func times(a, b *big.Int) *big.Int { return modulo(new(big.Int).Mul(a, b)) }

func over(a, b *big.Int) *big.Int { return times(a, new(big.Int).ModInverse(modulo(b), prime)) }

func minus(a *big.Int) *big.Int { return modulo(new(big.Int).Neg(a)) }

func modulo(n *big.Int) *big.Int { return new(big.Int).Mod(n, prime) }

// asBytes: the lowest first.
func asBytes(n *big.Int) (b [32]byte) {
	n.FillBytes(b[:])
	slices.Reverse(b[:])
	return b
}

// odd: with the highest bit, which says that x is odd.
func odd(b [32]byte) [32]byte {
	b[31] |= 0x80
	return b
}

// pair is a point: x, y.
type pair struct{ x, y *big.Int }

func neutral() pair { return pair{new(big.Int), big.NewInt(1)} }

func (p pair) add(q pair) pair {
	e := times(times(bend, times(p.x, q.x)), times(p.y, q.y))
	return pair{
		over(plus(times(p.x, q.y), times(q.x, p.y)), plus(one, e)),
		over(plus(times(p.y, q.y), times(p.x, q.x)), plus(one, minus(e))),
	}
}

// often: p so often.
func (p pair) often(n *big.Int) pair {
	sum := neutral()
	for i := n.BitLen() - 1; i >= 0; i-- {
		if sum = sum.add(sum); n.Bit(i) == 1 {
			sum = sum.add(p)
		}
	}
	return sum
}

func (p pair) encode() [32]byte {
	if p.x.Bit(0) == 1 {
		return odd(asBytes(p.y))
	}
	return asBytes(p.y)
}

// decode: the pair of 32 bytes, if they are one's.
func decode(b [32]byte) (pair, bool) {
	slices.Reverse(b[:])
	y := new(big.Int).SetBytes(b[:])
	sign := y.Bit(255)
	y.SetBit(y, 255, 0)
	square := times(y, y)
	x := new(big.Int).ModSqrt(over(plus(square, big.NewInt(-1)), plus(times(bend, square), one)), prime)
	if y.Cmp(prime) >= 0 || x == nil || x.Sign() == 0 && sign == 1 {
		return pair{}, false
	}
	if x.Bit(0) != sign {
		x = minus(x)
	}
	return pair{x, y}, true
}

// both is a point, told in two ways.
type both struct {
	point edwards.Point
	pair  pair
}

func bothOf(t *testing.T, b [32]byte) both {
	t.Helper()
	p, err := edwards.Decode(b)
	q, ok := decode(b)
	if err != api.OK || !ok {
		t.Fatalf("%x is no point: %v, %v", b, err, ok)
	}
	return both{p, q}
}

func (p both) check(t *testing.T, call string) {
	t.Helper()
	if p.point.Encode() != p.pair.encode() {
		t.Errorf("%s: %x, not %x", call, p.point.Encode(), p.pair.encode())
	}
}

// small: the eight points that eight times are the neutral one, which comes first: an eighth part so often.
func small(t *testing.T) []both {
	t.Helper()
	b, _ := hex.DecodeString("26e8958fc2b227b045c3f489f2ef98f0d5dfac05d3c63339b13802886d53fc05")
	eighth := bothOf(t, [32]byte(b))
	var all []both
	for n := range int64(8) {
		all = append(all, bothOf(t, eighth.pair.often(big.NewInt(n)).encode()))
	}
	return all
}

// some: small points, the base, points of its order, and points that are a small one beside one of these.
func some(t *testing.T) []both {
	t.Helper()
	all := small(t)
	base := both{edwards.Base(), pair{}}
	base.pair, _ = decode(edwards.Base().Encode())
	all = append(all, base)
	r := rand.New(rand.NewSource(1))
	for i := range 8 {
		often := base.pair.often(new(big.Int).Rand(r, order))
		all = append(all, bothOf(t, often.encode()), bothOf(t, often.add(all[1+i%7].pair).encode()))
	}
	return append(all, bothOf(t, base.pair.add(all[1].pair).encode()))
}
