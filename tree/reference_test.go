package tree_test

import (
	"bytes"
	"crypto/sha256"
	"encoding/binary"
	"math/rand"
	"slices"

	"custumal/path"
	"custumal/tree"
)

// The chapter's sums, put together apart: of lists of leaves, without a tree.

func emptySum() [32]byte { return sha256.Sum256([]byte{2}) }

func leafSum(l tree.Leaf) [32]byte {
	return sha256.Sum256(slices.Concat([]byte{0}, l.Key[:], l.Value[:]))
}

func nodeSum(depth int, left, right [32]byte) [32]byte {
	text := binary.BigEndian.AppendUint16([]byte{1}, uint16(depth))
	return sha256.Sum256(slices.Concat(text, left[:], right[:]))
}

func bit(k path.Key, i int) int { return int(k[i/8] >> (7 - i%8) & 1) }

// side: those whose bit of that number is so.
func side(l []tree.Leaf, i, is int) []tree.Leaf {
	var all []tree.Leaf
	for _, one := range l {
		if bit(one.Key, i) == is {
			all = append(all, one)
		}
	}
	return all
}

// sumOf: of leaves no two of which have one key, from a depth on.
func sumOf(depth int, l []tree.Leaf) [32]byte {
	switch len(l) {
	case 0:
		return emptySum()
	case 1:
		return leafSum(l[0])
	}
	return nodeSum(depth, sumOf(depth+1, side(l, depth, 0)), sumOf(depth+1, side(l, depth, 1)))
}

// besideOf: what stands beside a key's way, and what is left of the leaves at its end: one or none.
func besideOf(l []tree.Leaf, k path.Key) (sums [][32]byte, end []tree.Leaf) {
	for depth := 0; len(l) > 1; depth++ {
		sums = append(sums, sumOf(depth+1, side(l, depth, 1-bit(k, depth))))
		l = side(l, depth, bit(k, depth))
	}
	return sums, l
}

// last: of each key the leaf that comes last, in the order of keys.
func last(l []tree.Leaf) (all []tree.Leaf) {
	of := map[path.Key]tree.Leaf{}
	for _, one := range l {
		of[one.Key] = one
	}
	for _, one := range of {
		all = append(all, one)
	}
	slices.SortFunc(all, func(a, b tree.Leaf) int { return bytes.Compare(a.Key[:], b.Key[:]) })
	return all
}

func turned(k path.Key, i int) path.Key {
	k[i/8] ^= 0x80 >> (i % 8)
	return k
}

func random(seed int64, n int) (all []tree.Leaf) {
	r := rand.New(rand.NewSource(seed))
	for range n {
		var l tree.Leaf
		r.Read(l.Key[:])
		r.Read(l.Value[:])
		all = append(all, l)
	}
	return all
}

// near: a key by chance, and those that differ from it in one of these bits alone.
func near(seed int64, places ...int) []tree.Leaf {
	all := random(seed, len(places)+1)
	for i, place := range places {
		all[i+1].Key = turned(all[0].Key, place)
	}
	return all
}

// every: each n-th place of a bit, and the last one.
func every(n int) (all []int) {
	for i := 0; i < 255; i += n {
		all = append(all, i)
	}
	return append(all, 255)
}

// lists: leaves of which trees are made, none of them with one key twice.
func lists() [][]tree.Leaf {
	all := [][]tree.Leaf{
		nil, random(1, 1), random(2, 2), random(3, 3), random(4, 7), random(5, 40),
		{{}}, {{Value: [32]byte{1}}, {Key: path.Key{31: 1}}}, {{Key: path.Key{0x80}}, {}},
		near(6, 0), near(7, 255), near(8, 254), near(9, 254, 255), near(10, 7), near(11, 8), near(12, 128, 255), near(13, 1, 2, 3),
		near(14, every(15)...), slices.Concat(near(15, 255), near(16, 200, 255), random(17, 5)),
	}
	return all
}

// asked: keys that are to be looked for in a tree of these leaves: theirs, ones near them, and others.
func asked(l []tree.Leaf) []path.Key {
	all := []path.Key{{}, {31: 1}, {0x80}}
	for _, one := range random(99, 3) {
		all = append(all, one.Key)
	}
	// Of many leaves some are enough, from both ends.
	for i := range min(len(l), 9) {
		all = append(all, l[i].Key, l[len(l)-1-i].Key, l[len(l)*i/9].Key)
	}
	for _, i := range []int{0, 1, 2, 8, 100, 253, 254, 255} {
		for _, one := range l[:min(len(l), 4)] {
			all = append(all, turned(one.Key, i))
		}
	}
	return all
}
