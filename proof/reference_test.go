package proof_test

import (
	"crypto/sha256"
	"encoding/binary"
	"math/rand"
	"slices"

	"custumal/api"
	"custumal/path"
	"custumal/proof"
	"custumal/tree"
)

// What the chapter says, put together apart.

// textsOf: the text of the end, and of each node, from the last to the first.
func textsOf(k path.Key, p proof.Proof) [][]byte {
	text := []byte{2}
	if p.There {
		text = slices.Concat([]byte{0}, p.End.Key[:], p.End.Value[:])
	}
	all := [][]byte{text}
	for place := len(p.Sums) - 1; place >= 0; place-- {
		so := sha256.Sum256(text)
		left, right := so, p.Sums[place]
		if place < 256 && k[place/8]>>(7-place%8)&1 == 1 {
			left, right = right, left
		}
		text = binary.BigEndian.AppendUint16([]byte{1}, uint16(place))
		text = slices.Concat(text, left[:], right[:])
		all = append(all, text)
	}
	return all
}

// rootOf: what comes out of a proof.
func rootOf(k path.Key, p proof.Proof) [32]byte {
	all := textsOf(k, p)
	return sha256.Sum256(all[len(all)-1])
}

// verdict: what Check is to answer.
func verdict(root [32]byte, k path.Key, p proof.Proof) ([32]byte, bool, api.Errno) {
	if len(p.Sums) > 256 || rootOf(k, p) != root {
		return [32]byte{}, false, api.ErrProof
	}
	for i := range p.Sums {
		if p.There && (p.End.Key[i/8]^k[i/8])>>(7-i%8)&1 == 1 {
			return [32]byte{}, false, api.ErrProof
		}
	}
	if p.There && p.End.Key == k {
		return p.End.Value, true, api.OK
	}
	return [32]byte{}, false, api.OK
}

// bytesOf: as Put is to write them.
func bytesOf(p proof.Proof) []byte {
	b := binary.BigEndian.AppendUint64(nil, uint64(len(p.Sums)))
	for _, sum := range p.Sums {
		b = append(b, sum[:]...)
	}
	if !p.There {
		return append(b, 0)
	}
	return slices.Concat(b, []byte{1}, p.End.Key[:], p.End.Value[:])
}

func turned(k path.Key, i int) path.Key {
	k[i/8] ^= 0x80 >> (i % 8)
	return k
}

func sums(seed int64, n int) (all [][32]byte) {
	r := rand.New(rand.NewSource(seed))
	for range n {
		var sum [32]byte
		r.Read(sum[:])
		all = append(all, sum)
	}
	return all
}

func randomLeaves(seed int64, n int) (all []tree.Leaf) {
	keys, values := sums(seed, n), sums(seed+1000, n)
	for i := range n {
		all = append(all, tree.Leaf{Key: keys[i], Value: values[i]})
	}
	return all
}

// near: a key by chance, and those that differ from it in one of these bits alone.
func near(seed int64, places ...int) []tree.Leaf {
	all := randomLeaves(seed, len(places)+1)
	for i, place := range places {
		all[i+1].Key = turned(all[0].Key, place)
	}
	return all
}

// lists: leaves of which trees are made.
func lists() [][]tree.Leaf {
	return [][]tree.Leaf{
		nil, randomLeaves(1, 1), randomLeaves(2, 2), randomLeaves(3, 3), randomLeaves(4, 30), {{}}, {{}, {Key: path.Key{31: 1}}},
		near(6, 0), near(7, 255), near(8, 254), near(9, 254, 255), near(10, 7, 8), near(11, 3, 100, 200, 255),
	}
}

// asked: keys that are to be looked for in a tree of these leaves.
func asked(l []tree.Leaf) []path.Key {
	all := []path.Key{{}, {31: 1}, {0x80}}
	for _, one := range append(randomLeaves(99, 2), l...) {
		all = append(all, one.Key)
	}
	for _, one := range l[:min(len(l), 3)] {
		for _, i := range []int{0, 1, 7, 100, 253, 254, 255} {
			all = append(all, turned(one.Key, i))
		}
	}
	return all
}

// proofs: of one key, each of which is taken under what comes out of it: with no sums, some, 256, with its leaf, another one's, and none.
func proofs(k path.Key) (all []proof.Proof) {
	for _, n := range []int{0, 1, 2, 8, 100, 254, 255, 256} {
		all = append(all, proof.Proof{Sums: sums(int64(n), n)})
		all = append(all, proof.Proof{Sums: sums(int64(n), n), There: true, End: tree.Leaf{Key: k, Value: [32]byte{1}}})
		all = append(all, proof.Proof{Sums: sums(int64(n), n), There: true, End: tree.Leaf{Key: k}})
		if n < 256 {
			all = append(all, proof.Proof{Sums: sums(int64(n), n), There: true, End: tree.Leaf{Key: turned(k, n), Value: [32]byte{1}}})
			all = append(all, proof.Proof{Sums: sums(int64(n), n), There: true, End: tree.Leaf{Key: turned(k, 255), Value: [32]byte{2}}})
		}
	}
	return all
}

// copyOf: with memory of its own, and spare room behind the sums.
func copyOf(p proof.Proof) proof.Proof {
	p.Sums = append(slices.Clone(p.Sums), sums(55, 3)...)[:len(p.Sums)]
	return p
}

// same: also in what stands in the spare room.
func same(p, q proof.Proof) bool {
	return len(p.Sums) == len(q.Sums) && slices.Equal(p.Sums[:len(p.Sums)+3], q.Sums[:len(q.Sums)+3]) && p.There == q.There && p.End == q.End
}

func equal(p, q proof.Proof) bool {
	return slices.Equal(p.Sums, q.Sums) && p.There == q.There && p.End == q.End
}
