package keep_test

import (
	"slices"
	"testing"

	"custumal/api"
	"custumal/disk"
	"custumal/keep"
	"custumal/wire"
)

// roomy: these bytes, with spare room behind them.
func roomy(b []byte) []byte { return append(slices.Clone(b), "spare room"...)[:len(b)] }

// spoil: all becomes something else, up to the end of its room.
func spoil(b []byte) {
	b = b[:cap(b)]
	for i := range b {
		b[i] ^= 0x55
	}
}

// What is handed in isn't changed, nor its spare room, nor kept; what is answered is new memory (P27.5).
func TestMemory(t *testing.T) {
	p := formatted(t, plain())
	for _, r := range append(script()[:12], look("a", "l", -1), look("a", "l", -1), of(wire.Standing, "a"), of(wire.Export, "c"), growth(1, 2), of(wire.Delete, "a")) {
		if r.Kind == 0 {
			p.tick(api.OK)
			continue
		}
		b := asked(r)
		want := p.account.do(b)
		in := roomy(b)
		whole := slices.Clone(in[:cap(in)])
		got := p.store.Do(in)
		if !slices.Equal(in[:cap(in)], whole) {
			t.Errorf("%+x: what was handed in is changed", r)
		}
		if string(got) != string(want) {
			t.Fatalf("%+x: %x, not %x", r, got, want)
		}
		spoil(in)
		spoil(got)
		p.expect()
	}
	p.reopen()
	look := asked(of(wire.Standing, "c"))
	got := p.store.Do(look)
	again := p.store.Do(look)
	spoil(got)
	if string(again) != string(p.account.do(look)) || string(p.store.Do(look)) != string(again) {
		t.Error("two answers share memory")
	}
}

// Open makes noughts of places that nobody has, and of nothing else: also where blocks are that a crash had left; they last (P27.1, P27.4).
func TestOpenSweeps(t *testing.T) {
	c := plain()
	p := formatted(t, c)
	p.must(api.OK, create("a", 1, wide))
	p.must(api.OK, create("b", 1, wide))
	p.must(api.OK, put("b", "l", "v"))
	p.must(api.OK, of(wire.Delete, "a"))
	state := p.store.Host().State()
	stray := disk.Block{5, 127: 7}
	for _, strays := range [][]int{{}, {60}, {79}, {100, 119}, {60, 70, 79, 105}, {81, 99}, {80 + 19, 62}, {59}, {4, 30, 70}, {120, 121}} {
		blocks := blocksOf(t, p.disk)
		want := slices.Clone(blocks)
		for _, at := range strays {
			blocks[at] = stray
			if mine := at >= 60 && at < 80 || at >= 100 && at < 120; !mine {
				want[at] = stray
			}
		}
		d := diskOf(t, blocks)
		writes := d.Writes()
		s := opened(t, d, c)
		if string(s.Host().State()) != string(state) || !slices.Equal(blocksOf(t, d), want) || d.Waiting() != 0 {
			t.Errorf("%v: other blocks, or another State", strays)
		}
		if slices.Equal(blocks, want) && d.Writes() != writes {
			t.Errorf("%v: something was written", strays)
		}
		d.Crash(nil)
		if !slices.Equal(blocksOf(t, d), want) {
			t.Errorf("%v: it didn't last", strays)
		}
		// Who comes then finds a journal without a record.
		if err := step(s, create("c", 1, wide)); err != api.OK {
			t.Fatal(err)
		}
		if err := step(s, put("c", "l", "v")); err != api.OK {
			t.Fatal(err)
		}
		if recs := recordsAt(t, d, c.Common, c.Each); len(recs) != 1 || string(recs[0]) != string(asked(put("c", "l", "v"))) {
			t.Errorf("%v: %x", strays, recs)
		}
	}
}

// Of a common journal without a record nothing comes back, whatever blocks stand behind its first one (P27.2).
func TestOpenSweepsCommon(t *testing.T) {
	c := plain()
	p := formatted(t, c)
	p.must(api.OK, create("a", 1, wide))
	p.must(api.OK, put("a", "l", "v"))
	p.tick(api.OK)
	blocks := blocksOf(t, p.disk)
	blocks[0] = disk.Block{}
	blocks[59] = disk.Block{9}
	d := diskOf(t, blocks)
	s := opened(t, d, c)
	if all := blocksOf(t, d); !slices.Equal(all[:120], make([]disk.Block, 120)) || d.Waiting() != 0 {
		t.Error("something is left, or doesn't last")
	}
	if string(s.Host().State()) != string(newAccount(t, c).host.State()) || s.Room() != 60 {
		t.Error("it isn't a new one")
	}
	if err := s.Tick(); err != api.OK {
		t.Fatal(err)
	}
	if again := opened(t, d, c); string(again.Host().State()) != string(s.Host().State()) || again.Room() != 59 {
		t.Error("something came back")
	}
}

// Two stores on disks of their own have nothing in common (P27.5).
func TestStoresAreApart(t *testing.T) {
	one, other := formatted(t, plain()), formatted(t, plain())
	one.must(api.OK, create("a", 1, wide))
	other.tick(api.OK)
	one.must(api.OK, put("a", "l", "v"))
	other.must(api.OK, create("b", 1, wide))
	one.reopen()
	other.reopen()
	if s, _ := keep.Open(one.disk, one.account.c); string(s.Host().State()) == string(other.store.Host().State()) {
		t.Error("they are alike")
	}
}
