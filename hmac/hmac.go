// Package hmac is layer 3: marks by a key (HMAC of FIPS 198-1): see shared/doc/03-hmac.md.
package hmac

import "custumal/sha2"

const (
	blockSize = 64
	innerByte = 0x36
	outerByte = 0x5c
)

// Of: the mark of parts, by a key.
func Of(key []byte, parts ...[]byte) [32]byte {
	block := filled(key)
	inner := sha2.New()
	inner.Write(turned(block, innerByte))
	for _, part := range parts {
		inner.Write(part)
	}
	sum := inner.Sum()
	return sha2.Sum(turned(block, outerByte), sum[:])
}

// Key: a key made of a key, by a name and a number.
func Key(key [32]byte, name string, n int) [32]byte {
	return Of(key[:], []byte(name), []byte{0}, number(n))
}

// Same: are both the same bytes? All of them are looked at, so that the steps don't tell where marks differ.
func Same(a, b []byte) bool {
	if len(a) != len(b) {
		return false
	}
	var unlike byte
	for i := range a {
		unlike |= a[i] ^ b[i]
	}
	return unlike == 0
}

// filled: the key, or the sum of one that is too long, at a block's length.
func filled(key []byte) [blockSize]byte {
	var block [blockSize]byte
	if len(key) > blockSize {
		sum := sha2.Sum(key)
		key = sum[:]
	}
	copy(block[:], key)
	return block
}

// turned: a block put together with a byte by exclusive or.
func turned(block [blockSize]byte, with byte) []byte {
	for i := range block {
		block[i] ^= with
	}
	return block[:]
}

// number: in 8 bytes, the highest first.
func number(n int) []byte {
	b := make([]byte, 8)
	for i := range b {
		b[i] = byte(uint64(n) >> (56 - 8*i))
	}
	return b
}
