package keep_test

import (
	"fmt"
	"math/rand"
	"slices"
	"testing"

	"custumal/api"
	"custumal/disk"
	"custumal/host"
	"custumal/keep"
	"custumal/tenant"
	"custumal/wire"
)

// step: a request, or a tick, where it has no kind.
func step(s *keep.Store, r wire.Request) api.Errno {
	if r.Kind == 0 {
		return s.Tick()
	}
	b, _ := wire.Ask(r)
	a, _ := wire.Told(s.Do(b))
	return a.Err
}

func opened(t *testing.T, d *disk.Disk, c keep.Config) *keep.Store {
	t.Helper()
	s, err := keep.Open(d, c)
	if err != api.OK || s == nil {
		t.Fatalf("Open: %v", err)
	}
	return s
}

// picks: which of so many writes are kept: each choice of them; of more than some, only the first ones, the last ones, and some by chance.
func picks(count int) (all [][]bool) {
	if count <= 5 {
		for n := range 1 << count {
			keep := make([]bool, count)
			for k := range keep {
				keep[k] = n>>k&1 == 1
			}
			all = append(all, keep)
		}
		return all
	}
	chance := rand.New(rand.NewSource(int64(count)))
	for n := range 9 {
		first, last, some := make([]bool, count), make([]bool, count), make([]bool, count)
		for k := range count {
			first[k], last[k], some[k] = k < n*count/8, k >= n*count/8, chance.Intn(2) > 0
		}
		all = append(all, first, last, some)
	}
	return all
}

// crashes: calls check for each write at which the power may go off in do, and for each pick of what is kept, with a disk that had these blocks ahead.
func crashes(t *testing.T, blocks []disk.Block, do func(*disk.Disk) api.Errno, check func(d *disk.Disk, why string)) (count int) {
	t.Helper()
	d := diskOf(t, blocks)
	ahead := d.Writes()
	if err := do(d); err != api.OK {
		t.Fatalf("without a crash: %v", err)
	}
	count = d.Writes() - ahead
	for n := 1; n <= count; n++ {
		waiting := 1
		for i := 0; i < waiting; i++ {
			d := diskOf(t, blocks)
			d.Arm(n)
			if err := do(d); err != api.ErrDown {
				t.Fatalf("off at write %d: %v", n, err)
			}
			all := picks(d.Waiting())
			waiting = len(all)
			d.Crash(all[i])
			check(d, fmt.Sprintf("off at write %d of %d, kept %v", n, count, all[i]))
		}
	}
	return count
}

// expectClean: all extents of places that nobody has are of noughts (P27.2, P27.4).
func expectClean(t *testing.T, d *disk.Disk, c keep.Config, h *host.Host, why string) {
	t.Helper()
	had := make([]bool, c.Places)
	for _, p := range h.Parts().Tenants {
		if p.State != tenant.Gone {
			had[p.Place] = true
		}
	}
	all := blocksOf(t, d)
	for at := range had {
		own := all[c.Common+at*c.Each:][:c.Each]
		if !had[at] && slices.ContainsFunc(own, func(b disk.Block) bool { return b != disk.Block{} }) {
			t.Fatalf("%s: place %d isn't of noughts", why, at)
		}
	}
}

// script: each kind of change, on tenants that are live, held, published, and not; with records of one block and of more.
func script() []wire.Request {
	long := "sixteen bytes id"
	return []wire.Request{
		create("a", 1, wide),
		put("a", "l", "v"),
		bring(packed("b", 2, 2, 3, true)),
		{},
		create(long, 3, wide),
		put(long, "thirty-two bytes of a long label", "sixty-four bytes of a long value, that is here to need two block"),
		of(wire.Hold, "a"),
		of(wire.Free, "b"),
		put("b", "l", "w"),
		of(wire.Delete, "b"),
		bring(packed("c", 1, 1, 0, false)),
		{},
		of(wire.Delete, "a"),
		of(wire.Delete, long),
		{},
		put("c", "l", "w"),
		of(wire.Delete, "c"),
		{},
	}
}

// Behind a crash at any write of any change, whatever is kept, all is there that was answered, and what was under way wholly or not at all; and so it goes on, with what a crash left, as if there had been none (P27.2, P27.4).
func TestCrashAtAnyWrite(t *testing.T) {
	t.Parallel()
	c := keep.Config{Seed: [32]byte{5}, Places: 3, Now: 1, Common: 40, Each: 12}
	all := script()
	d := diskOf(t, make([]disk.Block, keep.Blocks(c)))
	model, _ := host.New(c.Seed, c.Places, c.Now)
	lost, kept := 0, 0
	for i, r := range all {
		before := model.State()
		blocks := blocksOf(t, d)
		records := len(recordsAt(t, d, 0, c.Common))
		apply(t, model, r)
		after := model.State()
		crashes(t, blocks, func(d *disk.Disk) api.Errno { return step(opened(t, d, c), r) }, func(d *disk.Disk, why string) {
			why = fmt.Sprintf("step %d, %s", i, why)
			s := opened(t, d, c)
			want := before
			if len(recordsAt(t, d, 0, c.Common)) > records {
				want = after
				kept++
			} else {
				lost++
			}
			if string(s.Host().State()) != string(want) {
				t.Fatalf("%s: another State", why)
			}
			expectClean(t, d, c, s.Host(), why)
			if string(want) == string(before) {
				goOn(t, d, s, c, r, after, why)
			}
		})
		if err := step(opened(t, d, c), r); err != api.OK {
			t.Fatal(err)
		}
		expectClean(t, d, c, model, "answered")
	}
	if lost < 30 || kept < 30 {
		t.Errorf("only %d were lost, %d kept", lost, kept)
	}
}

func apply(t *testing.T, h *host.Host, r wire.Request) {
	t.Helper()
	err := api.OK
	if r.Kind == 0 {
		err = h.Tick()
	} else {
		err = h.Serve(r).Err
	}
	if err != api.OK {
		t.Fatalf("%+x: %v", r, err)
	}
}

// goOn: what was lost is asked again, and it is there as if it had been asked once; then the store is opened again.
func goOn(t *testing.T, d *disk.Disk, s *keep.Store, c keep.Config, r wire.Request, want []byte, why string) {
	t.Helper()
	if err := step(s, r); err != api.OK {
		t.Fatalf("%s: asked again: %v", why, err)
	}
	for range 2 {
		if string(s.Host().State()) != string(want) {
			t.Fatalf("%s: asked again: another State", why)
		}
		d.Crash(nil)
		s = opened(t, d, c)
	}
}

// Behind a crash at any write of an Open, that makes noughts of what a crash had left, all is as it would be (P27.2, P27.4).
func TestCrashInOpen(t *testing.T) {
	t.Parallel()
	c := keep.Config{Seed: [32]byte{6}, Places: 3, Common: 12, Each: 9}
	d := diskOf(t, make([]disk.Block, keep.Blocks(c)))
	s := opened(t, d, c)
	model, _ := host.New(c.Seed, c.Places, c.Now)
	for _, r := range []wire.Request{bring(packed("a", 2, 1, 0, false)), create("b", 1, wide), put("b", "l", "v"), put("b", "m", "w"), {}, create("c", 1, wide), put("c", "l", "v")} {
		apply(t, model, r)
		if err := step(s, r); err != api.OK {
			t.Fatal(err)
		}
	}
	for _, foul := range [][]wire.Request{{of(wire.Delete, "a")}, {of(wire.Delete, "b")}, {of(wire.Delete, "c"), bring(packed("d", 3, 1, 0, false))}} {
		d := diskOf(t, blocksOf(t, d))
		s := opened(t, d, c)
		for _, r := range foul[:len(foul)-1] {
			if err := step(s, r); err != api.OK {
				t.Fatal(err)
			}
		}
		last := foul[len(foul)-1]
		opens := 0
		crashes(t, blocksOf(t, d), func(d *disk.Disk) api.Errno { return step(opened(t, d, c), last) }, func(d *disk.Disk, why string) {
			blocks := blocksOf(t, d)
			want := opened(t, diskOf(t, blocks), c).Host().State()
			reopen := func(d *disk.Disk) api.Errno {
				s, err := keep.Open(d, c)
				if err != api.OK && s != nil {
					t.Error("a store beside an error")
				}
				return err
			}
			opens += crashes(t, blocks, reopen, func(d *disk.Disk, other string) {
				s := opened(t, d, c)
				if string(s.Host().State()) != string(want) {
					t.Fatalf("%s; open: %s: another State", why, other)
				}
				expectClean(t, d, c, s.Host(), why+other)
			})
		})
		if opens == 0 {
			t.Errorf("%d: no Open wrote anything", last.Kind)
		}
	}
}

// Behind a crash at any write of a Format over another store there is that one, or the new one, wholly; and no record comes back (P27.2).
func TestCrashInFormat(t *testing.T) {
	t.Parallel()
	c := keep.Config{Seed: [32]byte{8}, Places: 2, Common: 8, Each: 4}
	d := diskOf(t, make([]disk.Block, keep.Blocks(c)))
	s := opened(t, d, c)
	for _, r := range []wire.Request{create("a", 1, wide), put("a", "l", "v"), create("b", 1, wide), {}} {
		if err := step(s, r); err != api.OK {
			t.Fatal(err)
		}
	}
	old := s.Host().State()
	fresh, _ := host.New(c.Seed, c.Places, c.Now)
	news := 0
	format := func(d *disk.Disk) api.Errno {
		s, err := keep.Format(d, c)
		if err != api.OK && s != nil {
			t.Error("a store beside an error")
		}
		return err
	}
	crashes(t, blocksOf(t, d), format, func(d *disk.Disk, why string) {
		s := opened(t, d, c)
		if string(s.Host().State()) == string(old) {
			return
		}
		news++
		if string(s.Host().State()) != string(fresh.State()) {
			t.Fatalf("%s: another State", why)
		}
		expectClean(t, d, c, s.Host(), why)
		for n := range c.Common {
			if s.Room() != c.Common-n {
				t.Fatalf("%s: Room %d, not %d", why, s.Room(), c.Common-n)
			}
			s.Tick()
			want := s.Host().State()
			s = opened(t, d, c)
			if string(s.Host().State()) != string(want) {
				t.Fatalf("%s: behind a tick another State", why)
			}
		}
	})
	if news == 0 {
		t.Error("it never was new")
	}
}
