package rules_test

import (
	"math"
	"math/rand"
	"testing"

	"custumal/api"
	"custumal/direct"
	"custumal/disk"
	"custumal/keep"
	"custumal/wire"
)

// stored: a disk and its store, of some tenants.
func stored(t *testing.T, c keep.Config) (*disk.Disk, *keep.Store) {
	t.Helper()
	d, _ := disk.New(keep.Blocks(c))
	s, err := keep.Format(d, c)
	if err != api.OK {
		t.Fatal(err)
	}
	for _, r := range []wire.Request{
		{Kind: wire.Create, Id: []byte("a"), Limits: direct.Limits{Labels: 2, Pending: 2, Epochs: 2}, Period: 1},
		{Kind: wire.Put, Id: []byte("a"), Label: []byte("l")},
		{Kind: wire.Create, Id: []byte("b"), Limits: direct.Limits{Labels: 2, Pending: 2, Epochs: 2}, Period: 1},
		{},
		{Kind: wire.Delete, Id: []byte("b")},
		{Kind: wire.Hold, Id: []byte("a")},
	} {
		if r.Kind == 0 {
			s.Tick()
			continue
		}
		b, _ := wire.Ask(r)
		s.Do(b)
	}
	return d, s
}

// useAll: each call of a store.
func useAll(s *keep.Store) {
	for kind := range 15 {
		for _, text := range [][]byte{nil, {1}, []byte("a"), make([]byte, 16), make([]byte, 65535)} {
			b, _ := wire.Ask(wire.Request{Kind: kind, Id: text, Bundle: text, Label: text, From: math.MinInt, To: math.MaxInt})
			s.Do(b)
			s.Do(text)
			s.Do(append([]byte{byte(kind)}, text...))
		}
	}
	s.Tick()
	s.Room()
	s.Host().State()
}

// Each call of layer 27 ends without a panic at nil objects, zero values, configs that are none, disks that are off, and whatever stands on them (P1).
func TestNoCallOfStoresPanics(t *testing.T) {
	c := keep.Config{Seed: [32]byte{3}, Places: 2, Common: 12, Each: 3}
	whole, store := stored(t, c)
	off, _ := stored(t, c)
	off.Arm(1)
	off.Write(0, disk.Block{})
	disks := []*disk.Disk{nil, {}, off, whole}
	numbers := []int{math.MinInt, -1, 0, 1, 2, 8, 9, 8191, 8192, 8193, 1 << 32, 1 << 61, math.MaxInt}
	for _, n := range numbers {
		for _, m := range numbers {
			for _, c := range []keep.Config{{Places: n, Common: m, Each: 1}, {Places: n, Common: 1, Each: m}, {Places: 1, Now: n, Common: 2, Each: m}, {Places: n, Now: m, Common: n, Each: m}} {
				keep.Blocks(c)
				for _, d := range disks[:3] {
					keep.Open(d, c)
					keep.Format(d, c)
				}
			}
		}
	}
	useAll(nil)
	useAll(&keep.Store{})
	useAll(store)
	whole.Arm(2)
	useAll(store)
	whole.Crash(nil)
	for round := range 60 {
		useAll(damaged(t, c, round))
	}
}

// damaged: what is opened of a disk on which a byte or some are others; nothing, where nothing can be.
func damaged(t *testing.T, c keep.Config, round int) *keep.Store {
	t.Helper()
	d, _ := stored(t, c)
	chance := rand.New(rand.NewSource(int64(round)))
	for range 1 + chance.Intn(3) {
		// The records are in the first few blocks, and in the first one of each place.
		at := []int{chance.Intn(7), chance.Intn(7), 12, 15}[chance.Intn(4)]
		b, _ := d.Read(at)
		b[chance.Intn(api.Block)] = byte(chance.Intn(256) >> chance.Intn(8))
		d.Write(at, b)
	}
	d.Sync()
	s, err := keep.Open(d, c)
	if (s == nil) != (err != api.OK) {
		t.Errorf("a store beside an error, or none: %v", err)
	}
	return s
}

// tellOfStore: what comes of these sums as seed, ids, labels and values, over crashes.
func tellOfStore(sums ...[32]byte) (all [][]byte) {
	c := keep.Config{Seed: sums[0], Places: 2, Common: 20, Each: 5}
	d, _ := disk.New(keep.Blocks(c))
	s, _ := keep.Format(d, c)
	for n, kind := range []int{wire.Create, wire.Put, 0, wire.Lookup, wire.Put, wire.Hold, wire.Delete, 0, wire.Standing} {
		for _, sum := range sums {
			r := wire.Request{Kind: kind, Id: sum[:api.MaxId], Keys: direct.Keys{Vrf: sum}, Limits: direct.Limits{Labels: 1, Pending: 1, Epochs: 1}}
			r.Period, r.Label, r.Value, r.From = 1, sum[:], sum[:], -1
			if kind == 0 {
				s.Tick()
				continue
			}
			b, _ := wire.Ask(r)
			all = append(all, s.Do(b))
		}
		if n%3 == 1 {
			d.Crash(nil)
			s, _ = keep.Open(d, c)
		}
	}
	for i := range d.Size() {
		b, _ := d.Read(i)
		all = append(all, b[:])
	}
	return append(all, s.Host().State(), []byte{byte(s.Room())})
}
