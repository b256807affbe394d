package field

import "math/bits"

const (
	topBit = 1 << 63
	gap    = 19      // so much are 2^255 and the prime apart, so that 2^255 counts as 19
	wrap   = 2 * gap // as what 2^256 counts
)

// four is an Elem's parts, the lowest first, by fields: unlike an array's, they stay out of memory, which makes sums far quicker.
type four struct{ a, b, c, d uint64 }

func parts(a Elem) four { return four{a[0], a[1], a[2], a[3]} }

func elem(x four) Elem { return Elem{x.a, x.b, x.c, x.d} }

// rest: modulo the prime.
func rest(x four) four {
	top := x.d / topBit
	x.d &^= topBit
	x, _ = sum(x, four{a: gap * top})
	// It is below twice the prime now, and not below the prime itself if the gap brings it to 2^255.
	if over, _ := sum(x, four{a: gap}); over.d >= topBit {
		over.d &^= topBit
		return over
	}
	return x
}

// folded: modulo the prime, of x and of 2^256 so often (at most wrap times).
func folded(x four, over uint64) four {
	x, carry := sum(x, four{a: wrap * over})
	x.a += wrap * carry // behind a carry x is below wrap * wrap: this carries nothing
	return rest(x)
}

// product: x times y, modulo the prime.
func product(x, y four) four {
	a, high := line(x.a, y, four{})
	b, high := line(x.b, y, high)
	c, high := line(x.c, y, high)
	d, high := line(x.d, y, high)
	low, high := line(wrap, high, four{a, b, c, d})
	return folded(four{low, high.a, high.b, high.c}, high.d)
}

// line: n times x, and y: the lowest part, and those above it.
func line(n uint64, x, y four) (low uint64, high four) {
	low, over := step(n, x.a, y.a, 0)
	high.a, over = step(n, x.b, y.b, over)
	high.b, over = step(n, x.c, y.c, over)
	high.c, high.d = step(n, x.d, y.d, over)
	return low, high
}

// step: n times x, and y, and over, which two parts have room for.
func step(n, x, y, over uint64) (low, high uint64) {
	high, low = bits.Mul64(n, x)
	low, carry := bits.Add64(low, y, 0)
	high += carry
	low, carry = bits.Add64(low, over, 0)
	return low, high + carry
}

// sum: modulo 2^256, and what is carried.
func sum(x, y four) (s four, carry uint64) {
	s.a, carry = bits.Add64(x.a, y.a, 0)
	s.b, carry = bits.Add64(x.b, y.b, carry)
	s.c, carry = bits.Add64(x.c, y.c, carry)
	s.d, carry = bits.Add64(x.d, y.d, carry)
	return s, carry
}

// difference: modulo 2^256, and what it lacks.
func difference(x, y four) (left four, lacks uint64) {
	left.a, lacks = bits.Sub64(x.a, y.a, 0)
	left.b, lacks = bits.Sub64(x.b, y.b, lacks)
	left.c, lacks = bits.Sub64(x.c, y.c, lacks)
	left.d, lacks = bits.Sub64(x.d, y.d, lacks)
	return left, lacks
}
