package extract

import (
	"bytes"
	"math/rand"
	"testing"
)

// weak: a sum of few unlike values; alike: one of one.
func weak(text []byte) (sum [32]byte) {
	for _, b := range text {
		sum[0] = (3*sum[0] + b) % 5
	}
	return sum
}

func alike([]byte) [32]byte { return [32]byte{} }

// firstTwo: each text against each.
func firstTwo(a, b [][]byte, sum func([]byte) [32]byte) (x, y []byte, ok bool) {
	for _, x := range a {
		for _, y := range b {
			if sum(x) == sum(y) && !bytes.Equal(x, y) {
				return x, y, true
			}
		}
	}
	return nil, nil, false
}

func texts(c *rand.Rand, kinds int) (l [][]byte) {
	for range c.Intn(8) {
		text := make([]byte, c.Intn(3))
		for i := range text {
			text[i] = byte(c.Intn(kinds))
		}
		l = append(l, text)
	}
	return l
}

// The first text of the one list that goes with one of the other, and the first such one: of all kinds of lists (P30.1).
func TestFindByChance(t *testing.T) {
	found := 0
	for round := range 20000 {
		c := rand.New(rand.NewSource(int64(round)))
		a, b := texts(c, 1+round%4), texts(c, 1+round%4)
		for _, sum := range []func([]byte) [32]byte{weak, alike, sumOf} {
			x, y, ok := find(a, b, sum)
			wantX, wantY, want := firstTwo(a, b, sum)
			if ok != want || !bytes.Equal(x, wantX) || !bytes.Equal(y, wantY) {
				t.Fatalf("%x and %x: %x, %x, %t, not %x, %x, %t", a, b, x, y, ok, wantX, wantY, want)
			}
			if ok {
				found++
			}
		}
	}
	if found < 1000 {
		t.Errorf("found %d times alone", found)
	}
}

// Texts that are nothing are texts, too; nil and empty ones are alike (P30.1; rule 3).
func TestFindNothing(t *testing.T) {
	for _, nothing := range [][]byte{nil, {}} {
		if x, y, ok := find([][]byte{nothing}, [][]byte{{}, nil, {1}}, alike); !ok || len(x) != 0 || string(y) != "\x01" {
			t.Errorf("%x, %x, %t", x, y, ok)
		}
		if x, y, ok := find([][]byte{nothing, nil}, [][]byte{{}, nil}, alike); ok || x != nil || y != nil {
			t.Errorf("%x, %x, %t", x, y, ok)
		}
	}
}

// What is found shares no memory with the lists (P30.4).
func TestFindIsNew(t *testing.T) {
	a, b := [][]byte{[]byte("one")}, [][]byte{[]byte("one"), []byte("other")}
	x, y, ok := find(a, b, alike)
	if !ok {
		t.Fatal("nothing is found")
	}
	clear(x[:cap(x)])
	clear(y[:cap(y)])
	if string(a[0]) != "one" || string(b[0]) != "one" || string(b[1]) != "other" {
		t.Error("a list is changed")
	}
}

// Of sums as they are nothing is found: not of the same lists (example 1), nor of others.
func TestFindOfSums(t *testing.T) {
	lists := [][][]byte{nil, {nil}, {{}}, {{0}}, {{0}, {0, 0}}, {[]byte("a"), []byte("b"), []byte("a")}}
	for _, a := range lists {
		for _, b := range lists {
			if x, y, ok := Find(a, b); ok || x != nil || y != nil {
				t.Errorf("%x and %x: %x, %x, %t", a, b, x, y, ok)
			}
		}
	}
}
