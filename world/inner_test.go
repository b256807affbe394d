package world

import (
	"fmt"
	"testing"

	"custumal/api"
	"custumal/direct"
	"custumal/disk"
	"custumal/host"
	"custumal/keep"
	"custumal/wire"
)

// An honest host is never refused: so what a client does with others is tried by answers that are laid before it.

func conf() keep.Config { return keep.Config{Seed: [32]byte{6}, Places: 2, Common: 20, Each: 5} }

func started(t *testing.T) *world {
	t.Helper()
	w, err := begin(conf())
	if err != api.OK {
		t.Fatal(err)
	}
	return w
}

// The disk has just the blocks of the config; a client knows the host's public bytes, and has taken nothing (P32.1).
func TestBegin(t *testing.T) {
	w := started(t)
	if w.disk.Size() != keep.Blocks(conf()) || w.public != w.store.Host().Public() || len(w.taken) != 0 || w.tally() != "0 0 0" {
		t.Errorf("%d blocks, %s", w.disk.Size(), w.tally())
	}
}

// teller: a host of that seed, with a tenant, behind so many puts of a value, each with a tick.
func teller(seed [32]byte, value string, ticks int) *host.Host {
	h, _ := host.New(seed, 2, 0)
	h.Serve(wire.Request{Kind: wire.Create, Id: []byte("a"), Limits: direct.Limits{Labels: 3, Pending: 3, Epochs: 9}, Period: 1})
	for range ticks {
		h.Serve(wire.Request{Kind: wire.Put, Id: []byte("a"), Label: []byte("l"), Value: []byte(value)})
		h.Tick()
	}
	return h
}

func asked(r wire.Request) []byte {
	b, _ := wire.Ask(r)
	return b
}

func looks(id, label string) wire.Request {
	return wire.Request{Kind: wire.Lookup, Id: []byte(id), Label: []byte(label), From: -1}
}

func stands(id string) wire.Request { return wire.Request{Kind: wire.Standing, Id: []byte(id)} }

// tally: how many are taken, refused, and told twice.
func (w *world) tally() string { return fmt.Sprint(w.report.Taken, w.report.Refused, w.report.Twice) }

// Looks and standings are checked, by the host's own public bytes, the id and the label that was asked for; other answers aren't (P32.1).
func TestCheck(t *testing.T) {
	honest, other := teller(conf().Seed, "v", 2), teller([32]byte{7}, "v", 2)
	look, stand := honest.Do(asked(looks("a", "l"))), honest.Do(asked(stands("a")))
	for i, x := range []struct {
		asked, told []byte
		want        string
	}{
		{asked(looks("a", "l")), look, "1 0 0"},
		{asked(stands("a")), stand, "1 0 0"},
		{asked(looks("a", "m")), look, "0 1 0"},
		{asked(looks("b", "l")), look, "0 1 0"},
		{asked(stands("b")), stand, "0 1 0"},
		{asked(looks("a", "l")), other.Do(asked(looks("a", "l"))), "0 1 0"},
		{asked(stands("a")), other.Do(asked(stands("a"))), "0 1 0"},
		{asked(looks("b", "l")), honest.Do(asked(looks("b", "l"))), "0 0 0"},
		{asked(stands("b")), honest.Do(asked(stands("b"))), "0 0 0"},
		{nil, honest.Do(nil), "0 0 0"},
		{asked(looks("a", "l")), look[:len(look)-1], "0 0 0"},
		{asked(looks("a", "l")), nil, "0 0 0"},
		{asked(wire.Request{Kind: wire.Growth, To: 2}), honest.Do(asked(wire.Request{Kind: wire.Growth, To: 2})), "0 0 0"},
		{asked(wire.Request{Kind: wire.Audit, Id: []byte("a")}), honest.Do(asked(wire.Request{Kind: wire.Audit, Id: []byte("a")})), "0 0 0"},
	} {
		w := started(t)
		w.check(x.asked, x.told)
		if w.tally() != x.want {
			t.Errorf("%d: %s, not %s", i, w.tally(), x.want)
		}
	}
}

// Another super-root of a super-epoch that was taken ahead counts, each time; one that was refused doesn't, nor does one of another super-epoch, or the same again (P32.1).
func TestTwice(t *testing.T) {
	one, two, later := teller(conf().Seed, "v", 2), teller(conf().Seed, "w", 2), teller(conf().Seed, "w", 3)
	stranger := teller([32]byte{7}, "x", 2)
	w := started(t)
	for i, x := range []struct {
		h    *host.Host
		r    wire.Request
		want string
	}{
		{stranger, stands("a"), "0 1 0"},
		{one, stands("a"), "1 1 0"},
		{one, looks("a", "l"), "2 1 0"},
		{later, looks("a", "l"), "3 1 0"},
		{stranger, looks("a", "l"), "3 2 0"},
		{two, looks("a", "l"), "4 2 1"},
		{two, stands("a"), "5 2 2"},
		{later, stands("a"), "6 2 2"},
		{one, stands("a"), "7 2 3"},
		{two, looks("a", "never"), "8 2 4"},
		{stranger, stands("a"), "8 3 4"},
	} {
		w.check(asked(x.r), x.h.Do(asked(x.r)))
		if w.tally() != x.want {
			t.Errorf("%d: %s, not %s", i, w.tally(), x.want)
		}
	}
}

// spoilt: a world on whose disk there stands what makes no host.
func spoilt(t *testing.T) *world {
	t.Helper()
	w := started(t)
	w.store.Do(asked(wire.Request{Kind: wire.Create, Id: []byte("a"), Limits: direct.Limits{Labels: 3, Pending: 3, Epochs: 9}, Period: 1}))
	if err := w.disk.Write(1, disk.Block{1, 8: 1, 10: 1, 11: 9}); err != api.OK { // a record of one byte, 9
		t.Fatal(err)
	}
	w.disk.Sync()
	return w
}

// An Open that fails, behind a Crash or behind the last event: nothing but ErrFalse, whatever there was ahead (P32.1).
func TestOpenFails(t *testing.T) {
	if _, err := keep.Open(spoilt(t).disk, conf()); err != api.ErrFalse {
		t.Fatalf("the disk makes a host: %v", err)
	}
	for _, l := range [][]Event{
		{{Kind: Crash}},
		{{Kind: Ask, Bytes: asked(stands("a"))}, {Kind: Crash, Keep: []bool{true}}, {Kind: Tick}},
		// The write at which the power goes off would mend the block; it isn't kept.
		{{Kind: Arm, N: 1}, {Kind: Tick}},
	} {
		r, err := spoilt(t).run(l)
		if err != api.ErrFalse || fmt.Sprint(r) != fmt.Sprint(Report{}) {
			t.Errorf("%+v: %v, %+v", l, err, r)
		}
	}
	// Whatever the Open's own error is.
	w := started(t)
	w.config = keep.Config{}
	if r, err := w.run([]Event{{Kind: Crash}}); err != api.ErrFalse || fmt.Sprint(r) != fmt.Sprint(Report{}) {
		t.Errorf("no config: %v, %+v", err, r)
	}
	if r, err := spoilt(t).run([]Event{{Kind: Arm, N: 1}, {Kind: Tick}, {Kind: Crash, Keep: []bool{true}}}); err != api.OK || r.Crashes != 1 {
		t.Errorf("mended: %v, %+v", err, r)
	}
	if r, err := spoilt(t).run([]Event{{Kind: Ask}}); err != api.OK || len(r.Answers) != 1 {
		t.Errorf("not opened: %v, %+v", err, r)
	}
}
