package world_test

import (
	"slices"
	"testing"

	"custumal/api"
	"custumal/wire"
	"custumal/world"
)

// spoil: all becomes something else, up to the end of its room.
func spoil(b []byte) {
	b = b[:cap(b)]
	for i := range b {
		b[i] ^= 0x55
	}
}

// roomy: the same events, in lists that have room behind them.
func roomy(l []world.Event) []world.Event {
	var all []world.Event
	for _, e := range l {
		e.Bytes = append(slices.Clone(e.Bytes), "spare room"...)[:len(e.Bytes)]
		e.Keep = append(slices.Clone(e.Keep), true, false, true)[:len(e.Keep)]
		all = append(all, e)
	}
	return append(all, world.Event{Kind: 77, N: 7})[:len(all)]
}

// whole: events, with what stands in the room behind their lists.
func whole(l []world.Event) string {
	all := slices.Clone(l[:cap(l)])
	for i, e := range all {
		all[i].Bytes, all[i].Keep = e.Bytes[:cap(e.Bytes)], e.Keep[:cap(e.Keep)]
	}
	return said(all)
}

// What is handed in isn't changed, nor its spare room, nor kept; what is answered is new memory, and no two lists of it share any (P32.3).
func TestMemory(t *testing.T) {
	l := slices.Concat(life(), []world.Event{put("c", "l", "v"), look("c", "l", 1), look("c", "l", 1), of(wire.Export, "c"), arm(1), tick, crash(true), of(wire.Standing, "c")})
	in := roomy(l)
	before := whole(in)
	first, err := world.Run(small(), in)
	if err != api.OK {
		t.Fatal(err)
	}
	if whole(in) != before {
		t.Error("what was handed in is changed")
	}
	want := said(first)
	for _, e := range in {
		spoil(e.Bytes)
		clear(e.Keep)
	}
	clear(in)
	if said(first) != want {
		t.Error("what was handed in is kept")
	}
	second, err := world.Run(small(), l)
	if err != api.OK || said(second) != want {
		t.Fatalf("the same script comes to something else: %v", err)
	}
	lists := append(slices.Clone(first.Answers), first.State)
	for i, b := range lists {
		copies := make([]string, len(lists))
		for j, other := range lists {
			copies[j] = string(other)
		}
		spoil(b)
		for j, other := range lists {
			if j != i && string(other) != copies[j] {
				t.Errorf("answers %d and %d share memory", i, j)
			}
		}
	}
	if said(second) != want {
		t.Error("two reports share memory")
	}
}
