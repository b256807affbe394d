package vrf

import (
	"testing"

	"custumal/api"
	"custumal/edwards"
)

// candidates: those that are named, by their count, and no points else.
func candidates(points map[byte]edwards.Point) func(c byte) [32]byte {
	return func(c byte) [32]byte {
		if p, there := points[c]; there {
			return p.Encode()
		}
		return [32]byte{2} // no point has this
	}
}

// Each of the 256 counts may be the first that makes a point: eight times it; those behind it are nothing (P9.1).
func TestFirstPoint(t *testing.T) {
	base := edwards.Base()
	for c := range 256 {
		points := map[byte]edwards.Point{byte(c): base}
		for later := c + 1; later < 256; later += 5 {
			points[byte(later)] = base.Add(base)
		}
		if h, err := firstPoint(candidates(points)); err != api.OK || !h.Same(base.Eight()) {
			t.Errorf("the count %d: %x, %v", c, h.Encode(), err)
		}
	}
}

// Points that eight times are the neutral one are passed over (P9.1).
func TestFirstPointThatIsNotSmall(t *testing.T) {
	eighth, err := edwards.Decode([32]byte{
		0x26, 0xe8, 0x95, 0x8f, 0xc2, 0xb2, 0x27, 0xb0, 0x45, 0xc3, 0xf4, 0x89, 0xf2, 0xef, 0x98, 0xf0,
		0xd5, 0xdf, 0xac, 0x05, 0xd3, 0xc6, 0x33, 0x39, 0xb1, 0x38, 0x02, 0x88, 0x6d, 0x53, 0xfc, 0x05,
	})
	if err != api.OK {
		t.Fatal(err)
	}
	points := map[byte]edwards.Point{}
	for n := range byte(8) {
		points[2*n] = eighth.Times([32]byte{n})
	}
	if h, err := firstPoint(candidates(points)); err != api.ErrPoint || h != (edwards.Point{}) {
		t.Errorf("small points alone: %x, %v", h.Encode(), err)
	}
	points[20] = edwards.Base().Add(eighth) // it has a small point beside it, and isn't one
	if h, err := firstPoint(candidates(points)); err != api.OK || !h.Same(edwards.Base().Eight()) {
		t.Errorf("behind small points: %x, %v", h.Encode(), err)
	}
}

// There is no count of 256: nothing is answered, each candidate looked at once, from 0 on (P9.1; rule 2).
func TestNoPoint(t *testing.T) {
	var asked []byte
	h, err := firstPoint(func(c byte) [32]byte {
		asked = append(asked, c)
		return [32]byte{2}
	})
	if err != api.ErrPoint || h != (edwards.Point{}) {
		t.Errorf("no point: %x, %v", h.Encode(), err)
	}
	if len(asked) != 256 {
		t.Fatalf("asked for %d", len(asked))
	}
	for i, c := range asked {
		if int(c) != i {
			t.Errorf("asked for %d behind %d others", c, i)
		}
	}
}
