package path_test

import (
	"fmt"
	"math"
	"math/rand"
	"slices"
	"strconv"
	"strings"
	"testing"

	"custumal/path"
)

// digits: a key's bits, from the highest of the first byte on, as characters.
func digits(k path.Key) string {
	var b strings.Builder
	for _, one := range k {
		fmt.Fprintf(&b, "%08b", one)
	}
	return b.String()
}

// key: of such digits, with noughts behind them.
func key(digits string) (k path.Key) {
	digits += strings.Repeat("0", 256-len(digits))
	for i := range k {
		n, err := strconv.ParseUint(digits[8*i:8*i+8], 2, 8)
		if err != nil {
			panic(err)
		}
		k[i] = byte(n)
	}
	return k
}

// turned: with one bit turned, by the digits.
func turned(k path.Key, i int) path.Key {
	d := []byte(digits(k))
	d[i] ^= '0' ^ '1'
	return key(string(d))
}

func random(n int) (all []path.Key) {
	r := rand.New(rand.NewSource(13))
	for range n {
		var k path.Key
		r.Read(k[:])
		all = append(all, k)
	}
	return all
}

// keys: of noughts, of ones, with one bit, with one byte, and by chance.
func keys() []path.Key {
	all := random(10)
	all = append(all, path.Key{}, key(strings.Repeat("1", 256)), key(strings.Repeat("01", 128)), path.Key{0x80}, path.Key{31: 1})
	for _, i := range []int{0, 1, 7, 8, 15, 16, 100, 127, 128, 247, 248, 254, 255} {
		all = append(all, key(strings.Repeat("0", i)+"1"), key(strings.Repeat("1", i)+"0"+strings.Repeat("1", 255-i)))
	}
	return all
}

// pairs: each key with itself, with those that differ from it in one bit alone, and with other ones, in both orders.
func pairs() (all [][2]path.Key) {
	some := keys()
	for _, k := range some {
		all = append(all, [2]path.Key{k, k})
		for i := range 256 {
			all = append(all, [2]path.Key{k, turned(k, i)}, [2]path.Key{turned(k, i), k})
		}
		for _, l := range some {
			all = append(all, [2]path.Key{k, l})
		}
	}
	// Behind the first bit where they differ all may differ, in both ways.
	for i := range 255 {
		k, l := digits(random(2)[0]), digits(random(2)[1])
		all = append(all, [2]path.Key{key(k[:i] + "0" + k[i+1:]), key(k[:i] + "1" + l[i+1:])})
		all = append(all, [2]path.Key{key(k[:i] + "1" + k[i+1:]), key(k[:i] + "0" + l[i+1:])})
	}
	return all
}

// beyond: numbers that no bit has.
func beyond() []int {
	all := []int{
		math.MinInt, math.MinInt + 1, math.MinInt + 8, -1 << 32, -65536, -257, -256, -255,
		512, 65535, 65536, 1 << 31, 1 << 32, 1<<32 + 1, 1 << 61, math.MaxInt - 7, math.MaxInt,
	}
	for i := range 20 {
		all = append(all, -1-i, 256+i)
	}
	return all
}

// The chapter's example (P13.1).
func TestExample(t *testing.T) {
	k := path.Key{0x80}
	if k.Bit(0) != 1 || k.Common(path.Key{}) != 0 || path.Bits != 256 {
		t.Errorf("%d, %d, %d", k.Bit(0), k.Common(path.Key{}), path.Bits)
	}
}

// Each bit is its number's, from the highest of the first byte on; beyond there is none (P13.1).
func TestBit(t *testing.T) {
	for _, k := range keys() {
		for i, digit := range digits(k) {
			if got := k.Bit(i); got != int(digit-'0') {
				t.Fatalf("%x: bit %d is %d", k, i, got)
			}
		}
		for _, i := range beyond() {
			if got := k.Bit(i); got != 0 {
				t.Errorf("%x: bit %d is %d", k, i, got)
			}
		}
	}
}

// One bit is turned, and no other; beyond none is (P13.1); the key that it is asked of stays (P13.2).
func TestFlip(t *testing.T) {
	for _, k := range keys() {
		was := digits(k)
		for i := range 256 {
			if got := k.Flip(i); got != turned(k, i) {
				t.Fatalf("%x: flip %d makes %x", k, i, got)
			}
		}
		for _, i := range beyond() {
			if got := k.Flip(i); got != k {
				t.Errorf("%x: flip %d makes %x", k, i, got)
			}
		}
		if digits(k) != was {
			t.Errorf("%s is %x now", was, k)
		}
	}
}

// How many bits two keys begin with alike: 0 to 256 (P13.1).
func TestCommon(t *testing.T) {
	for _, p := range pairs() {
		k, l := digits(p[0]), digits(p[1])
		want := 0
		for want < 256 && k[want] == l[want] {
			want++
		}
		if got := p[0].Common(p[1]); got != want {
			t.Fatalf("%x, %x: %d, not %d", p[0], p[1], got, want)
		}
	}
}

// The first bit where they differ says which stands ahead; of two that are alike none does (P13.1).
func TestLess(t *testing.T) {
	for _, p := range pairs() {
		if got := p[0].Less(p[1]); got != (digits(p[0]) < digits(p[1])) {
			t.Fatalf("%x, %x: %v", p[0], p[1], got)
		}
	}
}

// Under looks at the first n bits alone: at none below 1, at all above 256 (P13.1).
func TestUnder(t *testing.T) {
	for _, p := range pairs() {
		k, l := digits(p[0]), digits(p[1])
		numbers := append(beyond(), 0, 1, 2, 7, 8, 9, 127, 128, 254, 255, 256)
		for i := range 256 {
			if k[i] != l[i] {
				numbers = append(numbers, i-1, i, i+1, i+2)
				break
			}
		}
		for _, n := range numbers {
			first := max(0, min(n, 256))
			if got := p[0].Under(p[1], n); got != (k[:first] == l[:first]) {
				t.Fatalf("%x, %x: %d bits: %v", p[0], p[1], n, got)
			}
		}
	}
}

// sorted: each once, in the order of the digits.
func sorted(l []path.Key) (all []path.Key) {
	var texts []string
	for _, k := range l {
		texts = append(texts, digits(k))
	}
	slices.Sort(texts)
	for _, d := range slices.Compact(texts) {
		all = append(all, key(d))
	}
	return all
}

// lists: none, one, all alike, in order, in the other one, keys that differ in one bit alone, and by chance, with some twice.
func lists() [][]path.Key {
	some := sorted(keys())
	k := some[3]
	all := [][]path.Key{nil, {}, {k}, {k, k}, {k, k, k, k}, {{}, {}, k}, {k, {}}, {k, {}, k}, some}
	back := slices.Clone(some)
	slices.Reverse(back)
	near := []path.Key{k}
	for i := range 256 {
		near = append(near, turned(k, i))
	}
	all = append(all, back, near, slices.Concat(some, near, back), []path.Key{turned(k, 255), k}, []path.Key{k, turned(k, 255), k})
	r := rand.New(rand.NewSource(5))
	for n := range 20 {
		mixed := slices.Concat(near[:10*n], back[:n], back[:n/2])
		r.Shuffle(len(mixed), func(i, j int) { mixed[i], mixed[j] = mixed[j], mixed[i] })
		all = append(all, mixed)
	}
	return all
}

// Sort tells each key once, in order (P13.1).
func TestSort(t *testing.T) {
	for i, l := range lists() {
		if got, want := path.Sort(l), sorted(l); !slices.Equal(got, want) {
			t.Errorf("list %d: %x, not %x", i, got, want)
		}
	}
}

// Neither a list nor its spare room is changed or kept, and answers are new memory (P13.2).
func TestSortKeepsOff(t *testing.T) {
	for i, l := range lists() {
		room := append(slices.Clone(l), path.Key{1}, path.Key{2}, path.Key{}, path.Key{1})
		was := slices.Clone(room)
		given, want := room[:len(l)], sorted(l)
		first, second := path.Sort(given), path.Sort(given)
		if !slices.Equal(room, was) {
			t.Fatalf("list %d is changed", i)
		}
		first = first[:cap(first)]
		for j := range first {
			first[j] = path.Key{0xee}
		}
		if !slices.Equal(room, was) || !slices.Equal(second, want) {
			t.Errorf("list %d: an answer shares its memory", i)
		}
		for j := range room {
			room[j] = path.Key{0xdd}
		}
		if !slices.Equal(second, want) {
			t.Errorf("list %d is kept", i)
		}
	}
}
