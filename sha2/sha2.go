// Package sha2 is layer 1: sums of 32 bytes (SHA-256 of FIPS 180-4): see shared/doc/01-sha2.md.
package sha2

import "math/bits"

const (
	blockSize = 64
	countSize = 8
)

// Sum: of parts, one behind the other.
func Sum(parts ...[]byte) [32]byte {
	var h Hash
	for _, part := range parts {
		h.Write(part)
	}
	return h.Sum()
}

// Hash is a sum that goes on. Its zero value is of nothing yet: the words get their first values at the first byte.
type Hash struct {
	words [8]uint32
	tail  [blockSize]byte // what stands behind the last full block
	count int
}

// New: of nothing yet.
func New() *Hash { return &Hash{} }

// Write: bytes more.
func (h *Hash) Write(b []byte) {
	if h == nil {
		return
	}
	if h.count == 0 {
		h.words = firstWords()
	}
	for len(b) > 0 {
		n := copy(h.tail[h.count%blockSize:], b)
		h.count += n
		b = b[n:]
		if h.count%blockSize == 0 {
			h.words = mix(h.words, &h.tail)
		}
	}
}

// Sum: of all so far; it is made on a copy, so that the hash can go on.
func (h *Hash) Sum() [32]byte {
	var end Hash
	if h != nil {
		end = *h
	}
	pad, n := padding(end.count)
	end.Write(pad[:n])
	return joined(end.words)
}

// Len: how many bytes were written.
func (h *Hash) Len() int {
	if h == nil {
		return 0
	}
	return h.count
}

// Fork: another one that goes on from here.
func (h *Hash) Fork() *Hash {
	if h == nil {
		return nil
	}
	other := *h
	return &other
}

// padding: what comes behind so many bytes, to the end of a block, and how many bytes that is.
func padding(count int) (pad [blockSize + countSize]byte, size int) {
	size = blockSize - (count%blockSize+countSize)%blockSize + countSize
	pad[0] = 0x80
	for i, n := size-1, uint64(count)<<3; n > 0; i, n = i-1, n>>8 {
		pad[i] = byte(n)
	}
	return pad, size
}

// joined: the words as bytes, the highest first.
func joined(words [8]uint32) [32]byte {
	var sum [32]byte
	for i, w := range words {
		sum[4*i] = byte(w >> 24)
		sum[4*i+1] = byte(w >> 16)
		sum[4*i+2] = byte(w >> 8)
		sum[4*i+3] = byte(w)
	}
	return sum
}

// mix: the words behind a block more.
func mix(words [8]uint32, block *[blockSize]byte) [8]uint32 {
	a, b, c, d, e, f, g, h := words[0], words[1], words[2], words[3], words[4], words[5], words[6], words[7]
	for i, w := range schedule(block) {
		t := h + turned(e, 6, 11, 25) + (e&f ^ ^e&g) + roundWords[i] + w
		u := turned(a, 2, 13, 22) + (a&b ^ a&c ^ b&c)
		h, g, f, e, d, c, b, a = g, f, e, d+t, c, b, a, t+u
	}
	for i, x := range [8]uint32{a, b, c, d, e, f, g, h} {
		words[i] += x
	}
	return words
}

// schedule: a block's 16 words, and those that come of them.
func schedule(block *[blockSize]byte) [64]uint32 {
	var w [64]uint32
	for i := range 16 {
		w[i] = uint32(block[4*i])<<24 | uint32(block[4*i+1])<<16 | uint32(block[4*i+2])<<8 | uint32(block[4*i+3])
	}
	for i := 16; i < len(w); i++ {
		w[i] = w[i-16] + shifted(w[i-15], 7, 18, 3) + w[i-7] + shifted(w[i-2], 17, 19, 10)
	}
	return w
}

// shifted: x turned right by p and by q, and moved right by r.
func shifted(x uint32, p, q, r int) uint32 {
	return bits.RotateLeft32(x, -p) ^ bits.RotateLeft32(x, -q) ^ x>>r
}

// turned: x turned right by each of p, q and r.
func turned(x uint32, p, q, r int) uint32 {
	return bits.RotateLeft32(x, -p) ^ bits.RotateLeft32(x, -q) ^ bits.RotateLeft32(x, -r)
}

// firstWords: the first 32 bits behind the point of the square roots of the first eight primes.
func firstWords() [8]uint32 {
	return [8]uint32{
		0x6a09e667, 0xbb67ae85, 0x3c6ef372, 0xa54ff53a,
		0x510e527f, 0x9b05688c, 0x1f83d9ab, 0x5be0cd19,
	}
}

// roundWords: the first 32 bits behind the point of the cube roots of the first 64 primes.
var roundWords = [64]uint32{
	0x428a2f98, 0x71374491, 0xb5c0fbcf, 0xe9b5dba5, 0x3956c25b, 0x59f111f1, 0x923f82a4, 0xab1c5ed5,
	0xd807aa98, 0x12835b01, 0x243185be, 0x550c7dc3, 0x72be5d74, 0x80deb1fe, 0x9bdc06a7, 0xc19bf174,
	0xe49b69c1, 0xefbe4786, 0x0fc19dc6, 0x240ca1cc, 0x2de92c6f, 0x4a7484aa, 0x5cb0a9dc, 0x76f988da,
	0x983e5152, 0xa831c66d, 0xb00327c8, 0xbf597fc7, 0xc6e00bf3, 0xd5a79147, 0x06ca6351, 0x14292967,
	0x27b70a85, 0x2e1b2138, 0x4d2c6dfc, 0x53380d13, 0x650a7354, 0x766a0abb, 0x81c2c92e, 0x92722c85,
	0xa2bfe8a1, 0xa81a664b, 0xc24b8b70, 0xc76c51a3, 0xd192e819, 0xd6990624, 0xf40e3585, 0x106aa070,
	0x19a4c116, 0x1e376c08, 0x2748774c, 0x34b0bcb5, 0x391c0cb3, 0x4ed8aa4a, 0x5b9cca4f, 0x682e6ff3,
	0x748f82ee, 0x78a5636f, 0x84c87814, 0x8cc70208, 0x90befffa, 0xa4506ceb, 0xbef9a3f7, 0xc67178f2,
}
