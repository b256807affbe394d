package rfclog_test

import (
	"crypto/sha256"
	"encoding/binary"
	"math/rand"
	"slices"

	"custumal/api"
	"custumal/rfclog"
)

// What the chapter says, put together apart: proofs of lists of entries by its definitions, and what comes out of proofs by RFC 9162's steps (2.1.3.2 and 2.1.4.2), bit by bit, without the definitions.

func entrySum(entry []byte) [32]byte { return sha256.Sum256(slices.Concat([]byte{0}, entry)) }

func pairSum(left, right [32]byte) [32]byte {
	return sha256.Sum256(slices.Concat([]byte{1}, left[:], right[:]))
}

// below: the greatest power of two below n.
func below(n int) int {
	k := 1 << 62
	for k >= n {
		k >>= 1
	}
	return k
}

func sumOf(entries [][]byte) [32]byte {
	switch n := len(entries); n {
	case 0:
		return sha256.Sum256(nil)
	case 1:
		return entrySum(entries[0])
	default:
		return pairSum(sumOf(entries[:below(n)]), sumOf(entries[below(n):]))
	}
}

func pathOf(i int, entries [][]byte) [][32]byte {
	n := len(entries)
	switch {
	case n == 1:
		return nil
	case i < below(n):
		return append(pathOf(i, entries[:below(n)]), sumOf(entries[below(n):]))
	}
	return append(pathOf(i-below(n), entries[below(n):]), sumOf(entries[:below(n)]))
}

func subOf(m int, entries [][]byte, beginning bool) [][32]byte {
	n := len(entries)
	switch {
	case m == 0 || m == n && beginning:
		return nil
	case m == n:
		return [][32]byte{sumOf(entries)}
	case m <= below(n):
		return append(subOf(m, entries[:below(n)], beginning), sumOf(entries[below(n):]))
	}
	return append(subOf(m-below(n), entries[below(n):], false), sumOf(entries[:below(n)]))
}

// upFrom: the root that comes out of an entry's sum and a path; false: there are too few or too many.
func upFrom(sum [32]byte, i, n int, p [][32]byte) ([32]byte, bool) {
	at, last := i, n-1
	for _, beside := range p {
		if last == 0 {
			return sum, false
		}
		if at&1 == 1 || at == last {
			sum = pairSum(beside, sum)
			for at&1 == 0 && at > 0 {
				at, last = at>>1, last>>1
			}
		} else {
			sum = pairSum(sum, beside)
		}
		at, last = at>>1, last>>1
	}
	return sum, last == 0
}

// upFromBoth: both roots that come out, of 0 < m < n; false: there are too few or too many.
func upFromBoth(m, n int, p [][32]byte, old [32]byte) (elder, younger [32]byte, ok bool) {
	if len(p) == 0 {
		return elder, younger, false
	}
	if m&(m-1) == 0 {
		p = slices.Insert(slices.Clone(p), 0, old)
	}
	at, last := m-1, n-1
	for at&1 == 1 {
		at, last = at>>1, last>>1
	}
	elder, younger = p[0], p[0]
	for _, beside := range p[1:] {
		if last == 0 {
			return elder, younger, false
		}
		if at&1 == 1 || at == last {
			elder, younger = pairSum(beside, elder), pairSum(beside, younger)
			for at&1 == 0 && at > 0 {
				at, last = at>>1, last>>1
			}
		} else {
			younger = pairSum(younger, beside)
		}
		at, last = at>>1, last>>1
	}
	return elder, younger, last == 0
}

func inclusionVerdict(entry []byte, i, n int, p [][32]byte, root [32]byte) api.Errno {
	if n < 1 || i < 0 || i >= n {
		return api.ErrArg
	}
	if sum, ok := upFrom(entrySum(entry), i, n, p); !ok || sum != root {
		return api.ErrProof
	}
	return api.OK
}

func consistencyVerdict(m, n int, p [][32]byte, old, root [32]byte) api.Errno {
	taken := false
	switch {
	case m < 0 || m > n:
		return api.ErrArg
	case m == 0:
		taken = len(p) == 0 && old == sumOf(nil) && (n > 0 || root == old)
	case m == n:
		taken = len(p) == 0 && root == old
	default:
		elder, younger, ok := upFromBoth(m, n, p, old)
		taken = ok && elder == old && younger == root
	}
	if taken {
		return api.OK
	}
	return api.ErrProof
}

// entries: of many sizes, also with none of bytes, and some alike.
func entries(n int) (all [][]byte) {
	r := rand.New(rand.NewSource(16))
	for i := range n {
		b := make([]byte, i*i%150)
		r.Read(b)
		if i%10 == 9 {
			b = slices.Clone(all[i-3])
		}
		all = append(all, b)
	}
	return all
}

func logOf(all [][]byte) *rfclog.Log {
	var l rfclog.Log
	for _, entry := range all {
		l.Add(entry)
	}
	return &l
}

func sums(seed, n int) (all [][32]byte) {
	for i := range n {
		all = append(all, sha256.Sum256(binary.BigEndian.AppendUint64([]byte{byte(seed)}, uint64(i))))
	}
	return all
}

func turned(sum [32]byte, i int) [32]byte {
	sum[i/8] ^= 0x80 >> (i % 8)
	return sum
}
