package hmac_test

import (
	"bytes"
	library "crypto/hmac"
	"crypto/sha256"
	"encoding/binary"
	"encoding/hex"
	"math"
	"math/rand"
	"slices"
	"strings"
	"testing"

	"custumal/hmac"
)

// text: bytes that differ, with spare room behind them.
func text(size int) []byte {
	b := make([]byte, size, size+100)
	r := rand.New(rand.NewSource(int64(size)))
	r.Read(b[:cap(b)])
	return b
}

// mark: the library's.
func mark(key []byte, parts ...[]byte) [32]byte {
	h := library.New(sha256.New, key)
	for _, part := range parts {
		h.Write(part)
	}
	return [32]byte(h.Sum(nil))
}

// The examples of RFC 4231 and of the document (P2, P3.1).
func TestKnownMarks(t *testing.T) {
	long := strings.Repeat("\xaa", 131)
	for _, c := range []struct{ key, text, mark string }{
		{strings.Repeat("\x0b", 20), "Hi There", "b0344c61d8db38535ca8afceaf0bf12b881dc200c9833da726e9376c2e32cff7"},
		{"Jefe", "what do ya want for nothing?", "5bdcc146bf60754e6a042426089575c75a003f089d2739839dec58b964ec3843"},
		{strings.Repeat("\xaa", 20), strings.Repeat("\xdd", 50), "773ea91e36800e46854db8ebd09181a72959098b3ef8c122d9635514ced565fe"},
		{long, "Test Using Larger Than Block-Size Key - Hash Key First", "60e431591ee0b67f0d8a26aacbf5b77f8e0bc6213728c5140546040f0ee37f54"},
	} {
		m := hmac.Of([]byte(c.key), []byte(c.text))
		if hex.EncodeToString(m[:]) != c.mark {
			t.Errorf("%q: %x", c.text, m)
		}
	}
}

// Keys of all lengths round a block's end, texts of some (P3.1).
func TestEveryKeyLength(t *testing.T) {
	for n := range 200 {
		for _, size := range []int{0, 1, 55, 56, 64, 100} {
			key, b := text(n), text(size)
			if hmac.Of(key, b) != mark(key, b) {
				t.Errorf("a key of %d bytes, a text of %d", n, size)
			}
		}
	}
}

// The parts stand one behind the other; nil and empty ones are nothing, of keys too (P1, P3.1).
func TestParts(t *testing.T) {
	key, b := []byte("key"), text(150)
	whole := mark(key, b)
	for i := 0; i <= len(b); i++ {
		if hmac.Of(key, b[:i], nil, b[i:], []byte{}) != whole {
			t.Errorf("parted at %d", i)
		}
	}
	nothing := mark(nil)
	if hmac.Of(nil) != nothing || hmac.Of([]byte{}) != nothing || hmac.Of(nil, nil, []byte{}) != nothing {
		t.Error("nothing")
	}
	if hmac.Of(key) != mark(key) || hmac.Of(nil, b) != mark(nil, b) {
		t.Error("half of nothing")
	}
}

// A key of a key is the mark of the name, a nought, and the number (P3.1).
func TestKeyOfKey(t *testing.T) {
	numbers := []int{0, 1, 2, 255, 256, 1 << 32, 0x0102030405060708, -1, -256, math.MaxInt, math.MinInt}
	for _, name := range []string{"", "a", "\x00", "name\xff", strings.Repeat("long", 40)} {
		for _, n := range numbers {
			key := [32]byte(text(32))
			want := mark(key[:], []byte(name), []byte{0}, binary.BigEndian.AppendUint64(nil, uint64(n)))
			if hmac.Key(key, name, n) != want {
				t.Errorf("%.20q %d", name, n)
			}
		}
	}
	if hmac.Key([32]byte{}, "", 0) != mark(nil, make([]byte, 9)) {
		t.Error("noughts")
	}
}

// Same asks for each byte, and for the count (P3.1).
func TestSame(t *testing.T) {
	for n := range 70 {
		a := text(n)
		b := slices.Clone(a)
		if !hmac.Same(a, b) || !hmac.Same(a, a) {
			t.Errorf("%d bytes aren't the same", n)
		}
		if hmac.Same(a, append(slices.Clone(a), 0)) || hmac.Same(append(slices.Clone(a), 0), a) {
			t.Errorf("%d bytes and one more are the same", n)
		}
		for i := range b {
			for bit := range 8 {
				b[i] ^= 1 << bit
				if hmac.Same(a, b) || hmac.Same(b, a) {
					t.Errorf("bit %d of byte %d of %d is nothing", bit, i, n)
				}
				b[i] ^= 1 << bit
			}
		}
	}
	if !hmac.Same(nil, nil) || !hmac.Same(nil, []byte{}) || !hmac.Same([]byte{}, nil) || hmac.Same(nil, []byte{0}) || hmac.Same([]byte{0}, nil) {
		t.Error("nil")
	}
	if hmac.Same([]byte{3, 0}, []byte{0, 3}) || hmac.Same([]byte{1, 1}, []byte{2, 2}) || hmac.Same([]byte{128, 128}, []byte{0, 0}) {
		t.Error("two unlike bytes make up for each other")
	}
}

// What is handed in stays as it was, its spare room too, and is not kept (P3.2).
func TestNothingKeptOrChanged(t *testing.T) {
	for _, n := range []int{0, 1, 4, 32, 63, 64, 65, 90} {
		key, b := text(n), text(n+1)
		keyAll, all := slices.Clone(key[:cap(key)]), slices.Clone(b[:cap(b)])
		parts := make([][]byte, 1, 4)
		parts[0] = b
		m := hmac.Of(key, parts...)
		hmac.Same(key, b)
		hmac.Same(key, keyAll[:n])
		if !bytes.Equal(key[:cap(key)], keyAll) || !bytes.Equal(b[:cap(b)], all) {
			t.Errorf("%d bytes: changed", n)
		}
		if &parts[0][0] != &b[0] || len(parts[0]) != len(b) || parts[:2][1] != nil {
			t.Errorf("%d bytes: the list of parts is changed", n)
		}
		clear(key[:cap(key)])
		clear(b[:cap(b)])
		if m != mark(keyAll[:n], all[:n+1]) || hmac.Of(keyAll[:n], all[:n+1]) != m {
			t.Errorf("%d bytes: kept", n)
		}
	}
}
