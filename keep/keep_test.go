package keep_test

import (
	"math"
	"slices"
	"strings"
	"testing"

	"custumal/api"
	"custumal/bundle"
	"custumal/direct"
	"custumal/disk"
	"custumal/host"
	"custumal/keep"
	"custumal/wire"
)

// The chapter's example (P27.1).
func TestExample(t *testing.T) {
	p := formatted(t, plain())
	p.must(api.OK, create("a", 1, wide))
	p.tick(api.OK)
	p.disk.Crash(nil)
	p.reopen()
}

// How many blocks a config needs, at each edge; which are none (P27.1).
func TestBlocks(t *testing.T) {
	far := []int{math.MinInt, -1, 0, 1 << 32, 1 << 62, math.MaxInt}
	for _, c := range []struct{ places, now, common, each, want int }{
		{1, 0, 1, 1, 2}, {8, 0, 1, 1, 9}, {9, 0, 1, 1, 0}, {0, 0, 1, 1, 0}, {1, -1, 1, 1, 0}, {1, math.MaxInt, 1, 1, 2}, {1, math.MinInt, 1, 1, 0},
		{1, 0, 0, 1, 0}, {1, 0, 1, 0, 0}, {1, 0, 8191, 1, 8192}, {1, 0, 8192, 1, 0}, {1, 0, 8191, 2, 0}, {1, 0, 1, 8191, 8192}, {1, 0, 1, 8192, 0},
		{8, 0, 8, 1023, 8192}, {8, 0, 9, 1023, 0}, {8, 0, 8, 1024, 0}, {8, 0, 8184, 1, 8192}, {8, 0, 8185, 1, 0}, {8, 0, 8192, 8192, 0},
		{3, 5, 60, 20, 120}, {4, 0, 400, 60, 640}, {1, 0, 8193, 1, 0}, {1, 0, 1, 8193, 0},
	} {
		conf := keep.Config{Places: c.places, Now: c.now, Common: c.common, Each: c.each}
		if got := keep.Blocks(conf); got != c.want {
			t.Errorf("%+v: %d", c, got)
		}
	}
	for _, n := range far {
		for _, c := range []keep.Config{{Places: n, Common: 1, Each: 1}, {Places: 1, Common: n, Each: 1}, {Places: 1, Common: 1, Each: n}, {Places: n, Common: n, Each: n}} {
			if got := keep.Blocks(c); got != 0 {
				t.Errorf("%+v: %d", c, got)
			}
		}
	}
}

// Format and Open want a disk that has all blocks, and its power: what is refused changes nothing (P27.1).
func TestRefused(t *testing.T) {
	c := plain()
	all := keep.Blocks(c)
	off := dirty(t, all)
	off.Arm(1)
	off.Write(0, disk.Block{})
	small := dirty(t, all-1)
	smallOff := dirty(t, all-1)
	smallOff.Arm(1)
	smallOff.Write(0, disk.Block{})
	none := c
	none.Places = 0
	early := c
	early.Now = -1
	whole := dirty(t, all)
	for i, r := range []struct {
		d    *disk.Disk
		c    keep.Config
		want api.Errno
	}{
		{nil, c, api.ErrArg}, {&disk.Disk{}, c, api.ErrArg}, {small, c, api.ErrArg}, {whole, none, api.ErrArg}, {whole, early, api.ErrArg},
		{nil, keep.Config{}, api.ErrArg}, {smallOff, c, api.ErrArg}, {off, none, api.ErrArg}, {off, c, api.ErrDown},
	} {
		if s, err := keep.Format(r.d, r.c); s != nil || err != r.want {
			t.Errorf("%d: Format: %v", i, err)
		}
		if s, err := keep.Open(r.d, r.c); s != nil || err != r.want {
			t.Errorf("%d: Open: %v", i, err)
		}
	}
	if !slices.Equal(blocksOf(t, whole), blocksOf(t, dirty(t, all))) || !slices.Equal(blocksOf(t, small), blocksOf(t, dirty(t, all-1))) {
		t.Error("a call that refused changed something")
	}
}

// A new store is a new host; all its blocks are of noughts, and last, and no others are touched, on a disk that has just enough and on one that has more, of the least and the most (P27.1).
func TestFormat(t *testing.T) {
	for _, c := range []keep.Config{
		plain(), {Places: 1, Common: 1, Each: 1}, {Places: 8, Now: 9, Common: 8, Each: 1023}, {Places: 1, Now: math.MaxInt, Common: 8191, Each: 1},
	} {
		for _, more := range []int{0, 5} {
			blocks := keep.Blocks(c)
			d := dirty(t, min(blocks+more, api.MaxBlocks))
			want := blocksOf(t, d)
			clear(want[:blocks])
			s, err := keep.Format(d, c)
			if err != api.OK {
				t.Fatalf("%+v: %v", c, err)
			}
			if !slices.Equal(blocksOf(t, d), want) || d.Waiting() != 0 {
				t.Errorf("%+v: other blocks, or they don't last", c)
			}
			d.Crash(nil)
			if !slices.Equal(blocksOf(t, d), want) {
				t.Errorf("%+v: a crash took of it", c)
			}
			h, _ := host.New(c.Seed, c.Places, c.Now)
			if string(s.Host().State()) != string(h.State()) || s.Room() != c.Common {
				t.Errorf("%+v: another State, or Room %d", c, s.Room())
			}
			again, err := keep.Open(d, c)
			if err != api.OK || string(again.Host().State()) != string(h.State()) || again.Room() != c.Common {
				t.Errorf("%+v: Open: %v", c, err)
			}
		}
	}
}

// Noughts that were written, but don't last yet, do behind a Format (P27.1).
func TestFormatOverWhatWaits(t *testing.T) {
	c := plain()
	d := dirty(t, keep.Blocks(c))
	for i := range d.Size() {
		d.Write(i, disk.Block{})
	}
	keep.Format(d, c)
	d.Crash(nil)
	if !slices.Equal(blocksOf(t, d), make([]disk.Block, d.Size())) {
		t.Error("it doesn't last")
	}
}

// A tenant's life, with the disk's bytes behind each step, which pair looks at; and all is there again behind each (P27.1).
func TestLife(t *testing.T) {
	p := formatted(t, plain())
	bundle := packed("b", 3, 5, 12, true)
	for _, step := range []struct {
		r    wire.Request
		want api.Errno
	}{
		{put("a", "l", "v"), api.ErrMiss},
		{create("a", 2, wide), api.OK},
		{create("a", 2, wide), api.ErrThere},
		{create(strings.Repeat("i", 16), 1000, direct.Limits{Labels: 1, Pending: 1, Epochs: 1}), api.OK},
		{put("a", "l", "v"), api.OK},
		{put("a", strings.Repeat("l", 32), strings.Repeat("v", 64)), api.OK},
		{put("a", "", "v"), api.ErrArg},
		{wire.Request{}, api.OK},
		{bring(bundle), api.OK},
		{bring(bundle), api.ErrThere},
		{bring(bundle[:9]), api.ErrBundle},
		{create("no place", 1, wide), api.ErrFull},
		{put("b", "l", "v"), api.ErrHeld},
		{of(wire.Free, "b"), api.OK},
		{put("b", "l", ""), api.OK},
		{of(wire.Free, "b"), api.ErrHeld},
		{wire.Request{}, api.OK},
		{wire.Request{}, api.OK},
		{look("a", "l", -1), api.OK},
		{look("a", "l", -1), api.OK},
		{of(wire.Hold, "a"), api.OK},
		{of(wire.Delete, "b"), api.OK},
		{of(wire.Delete, "b"), api.ErrGone},
		{of(wire.Standing, "b"), api.OK},
		{create("c", 1, wide), api.OK},
		{put("c", "x", "y"), api.OK},
		{of(wire.Delete, "c"), api.OK},
		{wire.Request{}, api.OK},
		{bring(packed("d", 1, 1, 0, false)), api.OK},
		{put("d", "x", "y"), api.OK},
		{wire.Request{}, api.OK},
		{of(wire.Export, "d"), api.OK},
		{of(wire.Delete, "a"), api.OK},
		{growth(1, 4), api.OK},
		{bring(bundle), api.ErrGone},
	} {
		if step.r.Kind == 0 {
			p.tick(api.OK)
		} else {
			p.must(step.want, step.r)
		}
		p.reopen()
	}
}

// A Do of a look is the host's, by the very cache; behind Open that is empty (P27.1, P27.2).
func TestCache(t *testing.T) {
	p := formatted(t, plain())
	p.must(api.OK, create("a", 1, wide))
	p.must(api.OK, put("a", "l", "v"))
	p.tick(api.OK)
	for range 2 {
		if a := p.must(api.OK, look("a", "l", -1)); a.Found.Reads == 0 {
			t.Error("it was kept ahead")
		}
		if a := p.must(api.OK, look("a", "l", -1)); a.Found.Reads != 0 {
			t.Error("it wasn't kept")
		}
		p.reopen()
	}
}

// Bytes that are no request's, and those that change nothing, leave no record, and need no room (P27.1).
func TestOtherBytes(t *testing.T) {
	c := plain()
	c.Common = 2
	p := formatted(t, c)
	p.must(api.OK, create("a", 1, wide))
	p.tick(api.OK)
	for range 2 {
		for _, b := range [][]byte{nil, {}, {0}, {1}, {5, 0}, {13, 0, 1, 'a'}, make([]byte, 70000)} {
			if got, want := p.store.Do(b), p.account.do(b); string(got) != string(want) || string(got) != string([]byte{0, byte(api.ErrForm)}) {
				t.Errorf("%.9x: %x, not %x", b, got, want)
			}
		}
		for _, r := range []wire.Request{
			look("a", "l", -1), {Kind: wire.History, Id: []byte("a"), Label: []byte("l")}, {Kind: wire.Audit, Id: []byte("a"), To: 1},
			of(wire.Export, "a"), of(wire.Standing, "a"), growth(0, 2), of(wire.Standing, "b"),
		} {
			p.do(r)
		}
		p.expect()
	}
}

// The common journal's last block, and behind it: ErrFull, ahead of all that the host refuses; and nothing is changed (P27.1).
func TestCommonIsFull(t *testing.T) {
	c := plain()
	c.Common = 4
	all := []wire.Request{
		create("b", 1, wide), create("a", 1, wide), create("c", 0, wide), of(wire.Hold, "a"), of(wire.Free, "a"), of(wire.Hold, "nobody"), of(wire.Delete, "a"),
		of(wire.Delete, "nobody"), put("a", "l", "v"), put("nobody", "l", "v"), put("a", "", ""), bring(packed("b", 0, 1, 0, false)), bring(nil),
	}
	for _, last := range []wire.Request{create("b", 1, wide), of(wire.Hold, "a"), put("a", "l", "v"), bring(packed("b", 0, 1, 0, false)), of(wire.Delete, "a"), {}} {
		p := formatted(t, c)
		p.must(api.OK, create("a", 1, wide))
		p.tick(api.OK)
		p.must(api.OK, put("a", "l", "v"))
		if last.Kind == 0 {
			p.tick(api.OK)
		} else {
			p.must(api.OK, last)
		}
		for range 2 {
			for _, r := range all {
				p.must(api.ErrFull, r)
			}
			p.tick(api.ErrFull)
			p.must(api.OK, of(wire.Standing, "a"))
			p.reopen()
		}
	}
}

// A tenant's journal that has just room for a put, and none: ErrFull, ahead of what its directory, or that it is held, says; others' puts go on (P27.1).
func TestOwnIsFull(t *testing.T) {
	c := plain()
	c.Each = 4
	p := formatted(t, c)
	p.must(api.OK, create("a", 1, wide))
	p.must(api.OK, create("b", 1, direct.Limits{Labels: 1, Pending: 1, Epochs: 1}))
	big := put("a", strings.Repeat("l", 32), strings.Repeat("v", 64))
	// 1 + 2 + 1 + 2 + 32 + 2 + 64 bytes need one block; with an id of 16 bytes they may need two.
	for range 3 {
		p.must(api.OK, big)
	}
	p.must(api.OK, put("a", "l", "v"))
	for range 2 {
		p.must(api.ErrFull, put("a", "l", "v"))
		p.must(api.ErrFull, put("a", "", "v"))
		p.must(api.ErrMiss, put("nobody", "l", "v"))
		p.reopen()
	}
	p.must(api.OK, of(wire.Hold, "a"))
	p.must(api.ErrFull, put("a", "l", "v"))
	p.must(api.OK, put("b", "l", "v"))
	p.must(api.ErrQuota, put("b", "l", "v"))
	p.must(api.OK, of(wire.Hold, "b"))
	p.must(api.ErrHeld, put("b", "l", "v"))
	p.must(api.OK, of(wire.Delete, "a"))
	p.must(api.ErrGone, put("a", "l", "v"))
	long := strings.Repeat("i", 16)
	p.must(api.OK, create(long, 1, wide))
	p.must(api.OK, put(long, strings.Repeat("l", 32), strings.Repeat("v", 62))) // 117 bytes
	p.must(api.OK, put(long, strings.Repeat("l", 32), strings.Repeat("v", 63))) // 118
	p.must(api.ErrFull, put(long, strings.Repeat("l", 32), strings.Repeat("v", 63)))
	p.must(api.OK, put(long, strings.Repeat("l", 32), strings.Repeat("v", 62)))
	p.reopen()
}

// An Import has room, or not, in an empty journal, whatever its bundle is; one whose bytes no record may have has none (P27.1).
func TestImportHasNoRoom(t *testing.T) {
	whole := packed("b", 4, 3, 2, false)
	need := (len(whole) + 3 + 116) / 117
	for _, each := range []int{1, need - 1, need, need + 1} {
		c := plain()
		c.Each = each
		p := formatted(t, c)
		want := api.OK
		if each < need {
			want = api.ErrFull
		}
		p.must(want, bring(whole))
		most := make([]byte, 117*each-3)
		p.must(api.ErrBundle, bring(most))
		p.must(api.ErrFull, bring(append(most, 0)))
	}
	c := keep.Config{Places: 1, Common: 9, Each: 8000}
	p := formatted(t, c)
	for size, want := range map[int]api.Errno{65532: api.ErrBundle, 65533: api.ErrFull, 65535: api.ErrFull} {
		p.must(want, bring(make([]byte, size)))
	}
	p.must(api.OK, create("a", 1, wide))
	p.must(api.ErrFull, bring(make([]byte, 65535)))
}

// The greatest bundles are kept; and the tenant has room behind them (P27.1).
func TestGreatImport(t *testing.T) {
	d, _ := direct.New([]byte("great"), direct.Keys{}, wide)
	for n := range 32 {
		for i := range 8 {
			d.Put([]byte{byte(n % 2), byte(i)}, []byte(strings.Repeat("v", 64)))
		}
		d.Seal()
	}
	b, err := bundle.Pack(bundle.Parcel{Directory: d, Period: 1000, Age: math.MaxInt, Held: true})
	if err != api.OK {
		t.Fatal(err)
	}
	c := plain()
	c.Each = (len(b)+3)/117 + 3
	p := formatted(t, c)
	p.must(api.OK, bring(b))
	p.must(api.OK, of(wire.Free, "great"))
	p.tick(api.OK)
	p.must(api.OK, put("great", "l", "v"))
	p.reopen()
}

// No tick is left: nothing is done, and nothing recorded (P27.1).
func TestLastTick(t *testing.T) {
	c := plain()
	c.Now = math.MaxInt - 1
	p := formatted(t, c)
	p.tick(api.OK)
	p.tick(api.ErrClock)
	p.reopen()
	p.tick(api.ErrClock)
}

// A nil store, and one that Format didn't make (P27.1).
func TestNil(t *testing.T) {
	var s *keep.Store
	b, _ := wire.Ask(create("a", 1, wide))
	for _, b := range [][]byte{nil, {1}, b} {
		if got := s.Do(b); string(got) != string([]byte{0, byte(api.ErrArg)}) {
			t.Errorf("Do: %x", got)
		}
	}
	if s.Tick() != api.ErrArg || s.Host() != nil || s.Room() != 0 {
		t.Error("a nil store")
	}
}

// Behind ErrDown, and behind a crash too, a store answers nothing but that, of all kinds; its Host and its Room are still told (P27.1).
func TestDown(t *testing.T) {
	all := []wire.Request{
		create("b", 1, wide), create("c", 0, wide), of(wire.Hold, "a"), of(wire.Free, "a"), of(wire.Delete, "a"), put("a", "l", "v"), put("nobody", "l", "v"),
		bring(packed("b", 0, 1, 0, false)), bring(nil), bring(make([]byte, 65535)), look("a", "l", -1), {Kind: wire.History, Id: []byte("a"), Label: []byte("l")},
		{Kind: wire.Audit, Id: []byte("a"), To: 1}, of(wire.Export, "a"), of(wire.Standing, "a"), growth(0, 2),
	}
	for i := -1; i < 8; i++ {
		p := formatted(t, plain())
		p.must(api.OK, create("a", 1, wide))
		p.tick(api.OK)
		p.must(api.OK, put("a", "l", "v"))
		p.disk.Arm(1)
		// Who asks nothing of the disk doesn't meet it.
		p.disk.Write(keep.Blocks(p.account.c), disk.Block{})
		for _, r := range all[10:] {
			b, _ := wire.Ask(r)
			if got, want := p.store.Do(b), p.account.host.Do(b); string(got) != string(want) {
				t.Errorf("%+v: %.99x", r, got)
			}
		}
		met := true
		if i < 0 {
			if err := p.store.Tick(); err != api.ErrDown {
				t.Errorf("Tick: %v", err)
			}
		} else {
			b, _ := wire.Ask(all[i])
			a, _ := wire.Told(p.store.Do(b))
			// What the host refuses doesn't meet the disk either.
			met = a.Err == api.ErrDown
			if want := p.account.host.Serve(all[i]); a.Kind != all[i].Kind || met != (want.Err == api.OK) || !met && a.Err != want.Err {
				t.Errorf("%+v: %+v", all[i], a)
			}
		}
		p.disk.Crash(nil)
		if !met {
			continue
		}
		for _, r := range all {
			b, _ := wire.Ask(r)
			if got := p.store.Do(b); string(got) != string([]byte{byte(r.Kind), byte(api.ErrDown)}) {
				t.Errorf("%+v: %.99x", r, got)
			}
		}
		for _, b := range [][]byte{nil, {1, 2}} {
			if got := p.store.Do(b); string(got) != string([]byte{0, byte(api.ErrDown)}) {
				t.Errorf("%x: %.99x", b, got)
			}
		}
		if err := p.store.Tick(); err != api.ErrDown || p.store.Host() == nil || p.store.Room() != p.account.c.Common-3 {
			t.Errorf("Tick: %v; Room %d", err, p.store.Room())
		}
	}
}

// ErrDown stands ahead of ErrFull (P27.1).
func TestDownAheadOfFull(t *testing.T) {
	c := plain()
	c.Common = 2
	c.Each = 1
	p := formatted(t, c)
	p.must(api.OK, create("a", 1, wide))
	p.disk.Arm(1)
	if err := p.store.Tick(); err != api.ErrDown {
		t.Error(err)
	}
	p.disk.Crash([]bool{true})
	p.account.tick()
	for _, r := range []wire.Request{create("b", 1, wide), bring(make([]byte, 65535)), put("a", "l", strings.Repeat("v", 64))} {
		b, _ := wire.Ask(r)
		if got := p.store.Do(b); string(got) != string([]byte{byte(r.Kind), byte(api.ErrDown)}) {
			t.Errorf("%+v: %x", r, got)
		}
	}
	p.reopen()
	p.tick(api.ErrFull)
}
