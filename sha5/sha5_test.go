package sha5_test

import (
	"bytes"
	"crypto/sha512"
	"encoding/hex"
	"math/rand"
	"slices"
	"strings"
	"testing"

	"custumal/sha5"
)

// text: bytes that differ, with spare room behind them.
func text(size int) []byte {
	b := make([]byte, size, size+200)
	r := rand.New(rand.NewSource(int64(size)))
	r.Read(b[:cap(b)])
	return b
}

// The examples of FIPS 180-4 and of the document (P2, P2.1).
func TestKnownSums(t *testing.T) {
	for _, c := range []struct{ text, sum string }{
		{"", "cf83e1357eefb8bdf1542850d66d8007d620e4050b5715dc83f4a921d36ce9ce47d0d13c5d85f2b0ff8318d2877eec2f63b931bd47417a81a538327af927da3e"},
		{"abc", "ddaf35a193617abacc417349ae20413112e6fa4e89a97ea20a9eeee64b55d39a2192992a274fc1a836ba3c23a3feebbd454d4423643ce80e2a9ac94fa54ca49f"},
		{"abcdefghbcdefghicdefghijdefghijkefghijklfghijklmghijklmnhijklmnoijklmnopjklmnopqklmnopqrlmnopqrsmnopqrstnopqrstu", "8e959b75dae313da8cf4f72814fc143f8f7779c6eb9f7fa17299aeadb6889018501d289e4900f7e4331b99dec4b5433ac7d329eeb6dd26545e96e55b874be909"},
		{strings.Repeat("a", 1000000), "e718483d0ce769644e2e42c7bc15b4638e1f98b13b2044285632a803afa973ebde0ff244877ea60a4cb0432ce577c31beb009c5c2c49aa2e4eadb217ad8cc09b"},
	} {
		s := sha5.Sum([]byte(c.text))
		if hex.EncodeToString(s[:]) != c.sum {
			t.Errorf("%.60q: %x", c.text, s)
		}
	}
}

// All lengths round the ends of the first blocks, and some long ones, against the library's own sums (P2.1).
func TestEveryLength(t *testing.T) {
	sizes := []int{1<<16 - 1, 1 << 16, 1<<21 + 5} // more than one and two bytes of the count of bits
	for n := range 700 {
		sizes = append(sizes, n)
	}
	for _, n := range sizes {
		b := text(n)
		if sha5.Sum(b) != sha512.Sum512(b) {
			t.Errorf("%d bytes", n)
		}
	}
}

// The parts stand one behind the other, wherever they are parted; empty and nil ones are nothing (P1, P2.1).
func TestParts(t *testing.T) {
	b := text(400)
	whole := sha5.Sum(b)
	for i := 0; i <= len(b); i++ {
		if sha5.Sum(b[:i], b[i:]) != whole || sha5.Sum(nil, b[:i], []byte{}, b[i:], nil) != whole {
			t.Errorf("parted at %d", i)
		}
	}
	var bytewise [][]byte
	for i := range b {
		bytewise = append(bytewise, b[i:i+1])
	}
	if sha5.Sum(bytewise...) != whole {
		t.Error("byte by byte")
	}
	empty := sha512.Sum512(nil)
	if sha5.Sum() != empty || sha5.Sum(nil) != empty || sha5.Sum([]byte{}, nil) != empty {
		t.Error("no bytes")
	}
	if sha5.Sum([]byte("a"), []byte("b")) == sha5.Sum([]byte("b"), []byte("a")) {
		t.Error("the order is nothing")
	}
}

// What is handed in stays as it was, its spare room too (P2.2).
func TestNothingKeptOrChanged(t *testing.T) {
	for n := range 300 {
		b := text(n)
		all := slices.Clone(b[:cap(b)])
		sum := sha5.Sum(b)
		if !bytes.Equal(b[:cap(b)], all) {
			t.Errorf("%d bytes: changed", n)
		}
		clear(b[:cap(b)])
		if sum != sha512.Sum512(all[:n]) || sha5.Sum(all[:n]) != sum {
			t.Errorf("%d bytes: kept", n)
		}
	}
	parts := make([][]byte, 1, 4)
	parts[0] = []byte("a")
	sha5.Sum(parts...)
	if string(parts[0]) != "a" || parts[:2][1] != nil {
		t.Error("the list of parts is changed")
	}
}
