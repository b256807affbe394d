package extract

import (
	"math/bits"
	"slices"

	"custumal/sha2"
)

// noEpoch is the first number of which nothing is told.
const noEpoch = 1 << 62

// What the text of a log's sum begins with.
const (
	isEntry = 0
	isNode  = 1
)

// notes are the texts that were summed up.
type notes struct{ texts [][]byte }

func (n *notes) sum(text []byte) [32]byte {
	n.texts = append(n.texts, text)
	return sha2.Sum(text)
}

func (n *notes) node(left, right [32]byte) [32]byte {
	return n.sum(slices.Concat([]byte{isNode}, left[:], right[:]))
}

// include: what is summed up for an entry behind so many others: these are whole trees, one for each 1 among their count's bits, and all beside it to the left. Where p has too few or too many, it is the entry alone.
func (n *notes) include(entry []byte, ahead int, p [][32]byte) {
	sum := n.sum(slices.Concat([]byte{isEntry}, entry))
	if len(p) != bits.OnesCount(uint(ahead)) {
		return
	}
	for _, left := range p {
		sum = n.node(left, sum)
	}
}

// grow: what is summed up for this: that m entries, of the sum old, are the beginning of all. Where p has too few or too many, it is nothing.
func (n *notes) grow(m, all int, p [][32]byte, old [32]byte) {
	way := wayTo(m, all)
	elder := old
	if slices.Contains(way, true) { // the last of these entries don't begin where the log does: their sum is told ahead of the others
		if len(p) == 0 {
			return
		}
		elder, p = p[0], p[1:]
	}
	if len(p) != len(way) {
		return
	}
	younger := elder
	for i, right := range slices.Backward(way) {
		beside := p[len(way)-1-i]
		if right {
			elder, younger = n.node(beside, elder), n.node(beside, younger)
		} else {
			younger = n.node(younger, beside)
		}
	}
}

// wayTo: from all entries down to those that the first m end with, as a whole tree: is each step to the right?
func wayTo(m, all int) (way []bool) {
	for m < all {
		k := 1 << (bits.Len(uint(all-1)) - 1) // the greatest power of two below all
		right := m > k
		if right {
			m, all = m-k, all-k
		} else {
			all = k
		}
		way = append(way, right)
	}
	return way
}
