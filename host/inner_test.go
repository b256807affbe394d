package host

import (
	"slices"
	"testing"

	"custumal/api"
	"custumal/direct"
	"custumal/wire"
)

// What no answer shows, but the chapter says: by what names looks are kept, and that of one who is deleted nothing is left (P26.1).
func TestWithin(t *testing.T) {
	h, err := New([32]byte{1}, 2, 0)
	if err != api.OK {
		t.Fatal(err)
	}
	for _, id := range []string{"other", "a"} {
		h.Serve(wire.Request{Kind: wire.Create, Id: []byte(id), Limits: direct.Limits{Labels: 1, Pending: 1, Epochs: 9}, Period: 1})
	}
	look := func(epoch int) {
		h.Serve(wire.Request{Kind: wire.Lookup, Id: []byte("a"), Label: []byte("l"), From: epoch})
	}
	look(0)
	if names := h.lately.Names(1); len(names) != 0 {
		t.Errorf("kept of one that isn't published: %q", names)
	}
	h.Tick()
	h.Tick()
	for _, epoch := range []int{-1, 1, 2, 3, -2} {
		look(epoch)
	}
	const ahead = "l\x00\x00\x00\x00\x00\x00\x00\x00"
	if names := h.lately.Names(1); !slices.Equal(names, []string{ahead + "\x02", ahead + "\x01"}) || len(h.lately.Names(0)) != 0 {
		t.Errorf("kept: %q", names)
	}
	if !slices.Equal(h.beat.Ids(), []string{"a", "other"}) || !h.seats[1].public {
		t.Errorf("in the schedule: %q", h.beat.Ids())
	}
	h.Serve(wire.Request{Kind: wire.Delete, Id: []byte("a")})
	if !slices.Equal(h.beat.Ids(), []string{"other"}) || len(h.lately.Names(1)) != 0 || h.seats[1] != (seat{}) || h.seats[0] == (seat{}) {
		t.Errorf("left of one who is deleted: %q, %q, %v", h.beat.Ids(), h.lately.Names(1), h.seats)
	}
}
