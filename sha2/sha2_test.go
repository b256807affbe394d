package sha2_test

import (
	"bytes"
	"crypto/sha256"
	"encoding/hex"
	"math/rand"
	"slices"
	"strings"
	"testing"

	"custumal/sha2"
)

// text: bytes that differ, with spare room behind them.
func text(size int) []byte {
	b := make([]byte, size, size+100)
	r := rand.New(rand.NewSource(int64(size)))
	r.Read(b[:cap(b)])
	return b
}

// The examples of FIPS 180-4 and of the document (P2, P1.1).
func TestKnownSums(t *testing.T) {
	for _, c := range []struct{ text, sum string }{
		{"", "e3b0c44298fc1c149afbf4c8996fb92427ae41e4649b934ca495991b7852b855"},
		{"abc", "ba7816bf8f01cfea414140de5dae2223b00361a396177a9cb410ff61f20015ad"},
		{"abcdbcdecdefdefgefghfghighijhijkijkljklmklmnlmnomnopnopq", "248d6a61d20638b8e5c026930c3e6039a33ce45964ff2167f6ecedd419db06c1"},
		{"abcdefghbcdefghicdefghijdefghijkefghijklfghijklmghijklmnhijklmnoijklmnopjklmnopqklmnopqrlmnopqrsmnopqrstnopqrstu", "cf5b16a778af8380036ce59e7b0492370b249b11e8f07a51afac45037afee9d1"},
		{strings.Repeat("a", 1000000), "cdc76e5c9914fb9281a1c7e284d73e67f1809a48a497200e046d39ccc7112cd0"},
	} {
		s := sha2.Sum([]byte(c.text))
		if hex.EncodeToString(s[:]) != c.sum {
			t.Errorf("%.60q: %x", c.text, s)
		}
	}
}

// All lengths round the ends of the first blocks, and some long ones, against the library's own sums (P1.1).
func TestEveryLength(t *testing.T) {
	sizes := []int{1<<16 - 1, 1 << 16, 1<<21 + 5} // more than one and two bytes of the count of bits
	for n := range 400 {
		sizes = append(sizes, n)
	}
	for _, n := range sizes {
		b := text(n)
		if sha2.Sum(b) != sha256.Sum256(b) {
			t.Errorf("%d bytes", n)
		}
	}
}

// The parts stand one behind the other, wherever they are parted; empty and nil ones are nothing (P1.1).
func TestParts(t *testing.T) {
	b := text(200)
	whole := sha2.Sum(b)
	for i := 0; i <= len(b); i++ {
		if sha2.Sum(b[:i], b[i:]) != whole || sha2.Sum(nil, b[:i], []byte{}, b[i:], nil) != whole {
			t.Errorf("parted at %d", i)
		}
	}
	var bytewise [][]byte
	for i := range b {
		bytewise = append(bytewise, b[i:i+1])
	}
	if sha2.Sum(bytewise...) != whole {
		t.Error("byte by byte")
	}
	empty := sha256.Sum256(nil)
	if sha2.Sum() != empty || sha2.Sum(nil) != empty || sha2.Sum([]byte{}, nil) != empty {
		t.Error("no bytes")
	}
	if sha2.Sum([]byte("a"), []byte("b")) == sha2.Sum([]byte("b"), []byte("a")) {
		t.Error("the order is nothing")
	}
}

// A Hash tells the sum of all so far, goes on, and counts, whatever the pieces (P1.1).
func TestHashGoesOn(t *testing.T) {
	b := text(1000)
	for _, step := range []int{1, 3, 55, 56, 57, 63, 64, 65, 128, 129, 1000} {
		h := sha2.New()
		for i := 0; i < len(b); i += step {
			if h.Sum() != sha256.Sum256(b[:i]) || h.Sum() != sha256.Sum256(b[:i]) || h.Len() != i {
				t.Fatalf("step %d, behind %d bytes", step, i)
			}
			h.Write(b[i:min(i+step, len(b))])
			h.Write(nil)
			h.Write([]byte{})
		}
		if h.Sum() != sha256.Sum256(b) || h.Len() != len(b) {
			t.Errorf("step %d", step)
		}
	}
}

func TestNewHash(t *testing.T) {
	h := sha2.New()
	if h == nil || h.Len() != 0 || h.Sum() != sha256.Sum256(nil) {
		t.Error("new")
	}
	var zero sha2.Hash
	if zero.Len() != 0 || zero.Sum() != sha256.Sum256(nil) {
		t.Error("zero")
	}
	zero.Write([]byte("abc"))
	if zero.Len() != 3 || zero.Sum() != sha256.Sum256([]byte("abc")) {
		t.Error("zero, written")
	}
}

// A fork and what it came from don't know of each other's bytes, at each place of a block (P1.1).
func TestFork(t *testing.T) {
	b := text(300)
	for n := range 200 {
		h := sha2.New()
		h.Write(b[:n])
		f := h.Fork()
		if f == h || f.Sum() != h.Sum() || f.Len() != n {
			t.Fatalf("fork behind %d bytes", n)
		}
		h.Write(b[n:])
		f.Write([]byte("other"))
		g := f.Fork()
		g.Write(b)
		if h.Sum() != sha256.Sum256(b) || h.Len() != len(b) {
			t.Errorf("the first one, behind %d bytes", n)
		}
		if f.Sum() != sha256.Sum256(append(slices.Clone(b[:n]), "other"...)) || f.Len() != n+5 {
			t.Errorf("the fork, behind %d bytes", n)
		}
	}
}

// A nil Hash (P1, P1.1).
func TestNilHash(t *testing.T) {
	var h *sha2.Hash
	h.Write(nil)
	h.Write([]byte("abc"))
	if h.Sum() != sha256.Sum256(nil) || h.Len() != 0 || h.Fork() != nil {
		t.Error("nil")
	}
}

// What is handed in stays as it was, its spare room too, and is not kept (P1.2).
func TestNothingKeptOrChanged(t *testing.T) {
	for n := range 200 {
		b := text(n)
		all := slices.Clone(b[:cap(b)])
		want := sha256.Sum256(all[:n])
		h := sha2.New()
		h.Write(b)
		sum := sha2.Sum(b)
		if h.Sum() != want || sum != want || !bytes.Equal(b[:cap(b)], all) {
			t.Errorf("%d bytes: changed", n)
		}
		clear(b[:cap(b)])
		if h.Sum() != want || sum != want {
			t.Errorf("%d bytes: kept", n)
		}
	}
	parts := make([][]byte, 1, 4)
	parts[0] = []byte("a")
	sha2.Sum(parts...)
	if string(parts[0]) != "a" || parts[:2][1] != nil {
		t.Error("the list of parts is changed")
	}
}
