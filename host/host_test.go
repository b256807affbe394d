package host_test

import (
	"bytes"
	"crypto/ed25519"
	"math"
	"slices"
	"strings"
	"testing"

	"custumal/api"
	"custumal/bundle"
	"custumal/direct"
	"custumal/host"
	"custumal/proof"
	"custumal/rfclog"
	"custumal/super"
	"custumal/tenant"
	"custumal/tree"
	"custumal/wire"
)

// The chapter's example (P26.1).
func TestExample(t *testing.T) {
	p := open(t, 1, 0)
	p.must(api.OK, create("a", 1, wide))
	p.must(api.ErrMiss, look("a", "x", -1))
	p.ticks(1)
	if a := p.must(api.OK, look("a", "x", -1)); a.Found.Present || a.Found.Epoch != 1 {
		t.Errorf("%+v", a.Found)
	}
}

// A new host has nobody, and one super-epoch; others are none (P26.1).
func TestNew(t *testing.T) {
	for _, places := range []int{math.MinInt, -1, 0, 1, 2, 7, 8, 9, 1 << 32, math.MaxInt} {
		for _, now := range []int{math.MinInt, -1, 0, 1, 1 << 40, math.MaxInt} {
			h, err := host.New(seed, places, now)
			if places < 1 || places > 8 || now < 0 {
				if h != nil || err != api.ErrArg {
					t.Errorf("New(%d, %d): %v", places, now, err)
				}
				continue
			}
			if h == nil || err != api.OK {
				t.Fatalf("New(%d, %d): %v", places, now, err)
			}
			p := h.Parts()
			if p.Now != now || len(p.Tenants) != 0 || len(p.Members) != 0 || len(p.Signed) != 1 || p.Signed[0].Epoch != 0 || p.Signed[0].Root != tree.Empty() {
				t.Errorf("Parts: %+v", p)
			}
			if h.Public() != [32]byte(ed25519.NewKeyFromSeed(seed[:]).Public().(ed25519.PublicKey)) || super.Check(h.Public(), p.Signed[0]) != api.OK {
				t.Error("what is signed isn't checked")
			}
			own := &pair{t, h, newAccount(seed, places, now)}
			own.expectParts()
			own.must(api.OK, growth(0, 1))
			own.must(api.ErrMiss, of(wire.Standing, "a"))
		}
	}
}

// There are just so many places; who is deleted leaves one to others (P26.1).
func TestPlaces(t *testing.T) {
	for places := 1; places <= 8; places++ {
		p := open(t, places, 0)
		ids := []string{"a", "b", "c", "d", "e", "f", "g", "h"}[:places]
		for i, id := range ids {
			p.must(api.OK, create(id, 1, wide))
			if at, err := p.host.Place([]byte(id)); at != i || err != api.OK {
				t.Errorf("Place of %q: %d, %v", id, at, err)
			}
		}
		p.must(api.ErrFull, create("more", 1, wide))
		p.ticks(1)
		middle := ids[places/2]
		p.must(api.OK, of(wire.Delete, middle))
		p.must(api.ErrGone, create(middle, 1, wide))
		p.must(api.OK, create("more", 1, wide))
		if at, err := p.host.Place([]byte("more")); at != places/2 || err != api.OK {
			t.Errorf("Place of one more: %d, %v", at, err)
		}
		p.must(api.ErrFull, create("another", 1, wide))
		p.ticks(1)
		for _, id := range []string{"", "nobody", middle, strings.Repeat("x", 17)} {
			want := api.ErrMiss
			if id == middle {
				want = api.ErrGone
			}
			if at, err := p.host.Place([]byte(id)); at != 0 || err != want {
				t.Errorf("Place of %q: %d, %v", id, at, err)
			}
		}
	}
}

// A tenant that is created, put into, ticked, held, freed, deleted, created again (P26.1).
func TestLife(t *testing.T) {
	p := open(t, 2, 5)
	p.must(api.ErrMiss, put("a", "l", "0"))
	p.must(api.OK, create("a", 1, wide))
	p.must(api.ErrThere, create("a", 1, wide))
	p.must(api.OK, put("a", "l", "1"))
	p.must(api.ErrMiss, history("a", "l"))
	p.must(api.ErrMiss, look("a", "l", -1))
	p.must(api.ErrMiss, of(wire.Standing, "a"))
	p.ticks(1)
	if a := p.must(api.OK, look("a", "l", -1)); !a.Found.Present || string(a.Found.Value) != "1" || a.Found.Epoch != 1 {
		t.Errorf("%+v", a.Found)
	}
	p.must(api.ErrHeld, of(wire.Free, "a"))
	p.must(api.OK, of(wire.Hold, "a"))
	p.must(api.ErrHeld, of(wire.Hold, "a"))
	p.must(api.ErrHeld, put("a", "l", "2"))
	p.must(api.ErrThere, create("a", 1, wide))
	for _, r := range []wire.Request{look("a", "l", 0), history("a", "l"), audit("a", 0, 1), of(wire.Export, "a"), of(wire.Standing, "a")} {
		p.must(api.OK, r)
	}
	p.ticks(3)
	if a := p.must(api.OK, of(wire.Standing, "a")); a.Member.Epoch != 1 || a.Member.Gone {
		t.Errorf("held: %+v", a.Member)
	}
	p.must(api.OK, of(wire.Free, "a"))
	p.must(api.OK, put("a", "l", "2"))
	p.ticks(1)
	if a := p.must(api.OK, history("a", "l")); len(a.Entries) != 2 || a.Entries[1].Epoch != 2 {
		t.Errorf("%+v", a.Entries)
	}
	p.must(api.OK, of(wire.Delete, "a"))
	for _, r := range []wire.Request{
		of(wire.Hold, "a"), of(wire.Free, "a"), of(wire.Delete, "a"), put("a", "l", "3"), look("a", "l", -1), look("a", "", 9),
		history("a", "l"), audit("a", 0, 1), of(wire.Export, "a"), create("a", 1, wide),
	} {
		p.must(api.ErrGone, r)
	}
	if a := p.must(api.OK, of(wire.Standing, "a")); a.Member.Gone || a.Member.Epoch != 2 {
		t.Errorf("deleted, ahead of the tick: %+v", a.Member)
	}
	p.ticks(1)
	if a := p.must(api.OK, of(wire.Standing, "a")); !a.Member.Gone || a.Member.Epoch != 0 || a.Member.Link != [32]byte{} {
		t.Errorf("deleted, behind the tick: %+v", a.Member)
	}
	p.must(api.ErrGone, create("a", 1, wide))
	p.ticks(1)
}

// Who is due is sealed, by its own period and age; who is held isn't, but grows older (P26.1).
func TestTick(t *testing.T) {
	p := open(t, 4, 0)
	for i, id := range []string{"one", "two", "three", "held"} {
		p.must(api.OK, create(id, []int{1, 2, 3, 2}[i], wide))
	}
	p.must(api.OK, of(wire.Hold, "held"))
	epochs := func(want ...int) {
		t.Helper()
		for i, id := range []string{"one", "two", "three", "held"} {
			if got := p.must(api.OK, of(wire.Standing, id)).Member.Epoch; got != want[i] {
				t.Errorf("%s is at epoch %d, not %d", id, got, want[i])
			}
		}
	}
	p.ticks(1)
	epochs(1, 0, 0, 0)
	p.ticks(1)
	epochs(2, 1, 0, 0)
	p.ticks(1)
	epochs(3, 1, 1, 0)
	p.must(api.OK, of(wire.Free, "held"))
	p.ticks(1)
	epochs(4, 2, 1, 1)
	p.ticks(8)
	epochs(12, 6, 4, 5)
}

// A tenant that has all its epochs stays as it is: its puts wait, and the others go on (P26.1).
func TestTickOfTheLastEpoch(t *testing.T) {
	p := open(t, 2, 0)
	p.must(api.OK, create("a", 1, direct.Limits{Labels: 1, Pending: 2, Epochs: 2}))
	p.must(api.OK, create("bb", 1, wide))
	p.ticks(2)
	p.must(api.OK, put("a", "l", "waits"))
	p.ticks(3)
	if a := p.must(api.OK, of(wire.Standing, "a")); a.Member.Epoch != 2 {
		t.Errorf("%+v", a.Member)
	}
	if a := p.must(api.OK, look("a", "l", -1)); a.Found.Present {
		t.Errorf("%+v", a.Found)
	}
	p.must(api.OK, put("a", "l", "waits, too"))
	p.must(api.ErrQuota, put("a", "l", "doesn't"))
}

// At the last tick nothing is done any more; all else is (P26.1).
func TestLastTick(t *testing.T) {
	p := open(t, 2, math.MaxInt-2)
	p.must(api.OK, create("a", 1, wide))
	p.must(api.OK, put("a", "l", "1"))
	p.ticks(2)
	p.must(api.OK, put("a", "l", "2"))
	p.must(api.OK, create("bb", 1, wide))
	for range 3 {
		if err := p.tick(); err != api.ErrClock {
			t.Errorf("Tick: %v", err)
		}
	}
	if n := len(p.host.Parts().Signed); n != 3 {
		t.Errorf("%d super-epochs", n)
	}
	p.must(api.ErrMiss, look("bb", "l", -1))
	p.must(api.OK, look("a", "l", -1))
	p.must(api.OK, of(wire.Delete, "a"))
	p.rebuild()
	if err := p.tick(); err != api.ErrClock {
		t.Errorf("Tick: %v", err)
	}
}

// What isn't published isn't looked up, whatever else is wrong; and it is at each epoch behind the first tick (P26.1).
func TestLookup(t *testing.T) {
	p := open(t, 2, 0)
	p.must(api.OK, create("a", 2, wide))
	for _, label := range []string{"l", "", strings.Repeat("l", 33)} {
		for _, epoch := range []int{-2, -1, 0, 1} {
			p.must(api.ErrMiss, look("a", label, epoch))
		}
	}
	p.must(api.OK, put("a", "l", "1"))
	p.ticks(1)
	if a := p.must(api.OK, look("a", "l", -1)); a.Found.Epoch != 0 || a.Found.Present || len(a.Later) != 0 {
		t.Errorf("%+v", a)
	}
	for n := range 4 {
		p.ticks(2)
		p.must(api.OK, put("a", "l", strings.Repeat("v", n)))
		p.must(api.OK, put("a", "m", strings.Repeat("w", 2*n)))
	}
	marks := p.must(api.OK, audit("a", 0, 4)).Marks
	for _, label := range []string{"l", "m", "never", strings.Repeat("l", 32)} {
		for epoch := range 5 {
			a := p.must(api.OK, look("a", label, epoch))
			if a.Found.Epoch != epoch || len(a.Later) != 4-epoch || a.Public != p.account.all[0].directory.Public() {
				t.Errorf("%q at %d: %+v", label, epoch, a)
			}
			for i, root := range a.Later {
				if root != marks[epoch+1+i].Root {
					t.Errorf("%q at %d: later root %d", label, epoch, i)
				}
			}
		}
		for _, epoch := range []int{math.MinInt, -3, -2, 5, 6, 1 << 32, math.MaxInt} {
			p.must(api.ErrMiss, look("a", label, epoch))
			p.must(api.ErrArg, look("a", "", epoch))
			p.must(api.ErrArg, look("a", strings.Repeat("l", 33), epoch))
		}
	}
}

// What was looked up is kept, the last four names of each place; then nothing is read (P26.1).
func TestCache(t *testing.T) {
	p := open(t, 2, 0)
	p.must(api.OK, create("a", 1, wide))
	p.must(api.OK, create("bb", 1, wide))
	for _, label := range []string{"1", "2", "3", "4", "5"} {
		p.must(api.OK, put("a", label, "value"))
		p.must(api.OK, put("bb", label, "value"))
	}
	p.ticks(1)
	reads := func(id, label string, epoch int, want bool) {
		t.Helper()
		a := p.must(api.OK, look(id, label, epoch))
		if (a.Found.Reads > 0) != want {
			t.Errorf("%s, %s at %d: %d reads", id, label, epoch, a.Found.Reads)
		}
		a.Found.Reads = 0
		fresh, _ := p.account.find([]byte(id)).directory.Lookup([]byte(label), epoch)
		fresh.Reads = 0
		if said(a.Found) != said(fresh) {
			t.Errorf("%s, %s at %d: %+v", id, label, epoch, a.Found)
		}
	}
	reads("a", "1", -1, true)
	reads("a", "1", -1, false)
	reads("a", "1", 1, false)
	reads("bb", "1", 1, true)
	reads("a", "1", 0, false) // of epoch 0 there is nothing to be met
	reads("a", "2", 1, true)
	reads("a", "3", 1, true)
	reads("a", "1", 1, false) // used again: 0 at epoch 0 goes ahead of it
	reads("a", "4", 1, true)
	reads("a", "1", 1, false)
	reads("a", "2", 1, false)
	reads("a", "5", 1, true) // 3 goes
	reads("a", "3", 1, true) // 4 goes
	reads("a", "1", 1, false)
	reads("a", "4", 1, true)
	reads("bb", "1", 1, false)
	// What is refused isn't kept, and pushes nothing out.
	for range 9 {
		p.must(api.ErrMiss, look("a", "1", 2))
		p.must(api.ErrMiss, look("a", "1", -2))
		p.must(api.ErrArg, look("a", "", 1))
	}
	reads("a", "4", 1, false)
	// The last epoch is another one behind a tick.
	p.must(api.OK, put("a", "4", "newer"))
	p.ticks(1)
	reads("a", "4", -1, true)
	reads("a", "4", 2, false)
	reads("a", "4", 1, false)
	p.must(api.OK, of(wire.Hold, "a"))
	reads("a", "4", -1, false)
}

// What was kept of one that is deleted is nothing to who has its place then (P26.1).
func TestCacheOfAPlace(t *testing.T) {
	p := open(t, 2, 0)
	p.must(api.OK, create("a", 1, wide))
	p.must(api.OK, create("other", 1, wide))
	p.must(api.OK, put("a", "l", "a's"))
	p.must(api.OK, put("other", "l", "other's"))
	p.ticks(1)
	p.must(api.OK, look("a", "l", 1))
	p.must(api.OK, look("other", "l", 1))
	p.must(api.OK, of(wire.Delete, "a"))
	p.must(api.OK, create("bb", 1, wide))
	p.must(api.OK, put("bb", "l", "bb's"))
	p.must(api.ErrMiss, look("bb", "l", -1)) // a was published, bb isn't
	p.ticks(1)
	if at, _ := p.host.Place([]byte("bb")); at != 0 {
		t.Fatalf("bb is at %d", at)
	}
	if a := p.must(api.OK, look("bb", "l", 1)); string(a.Found.Value) != "bb's" || a.Found.Reads == 0 {
		t.Errorf("%+v", a.Found)
	}
	if a := p.must(api.OK, look("other", "l", 1)); string(a.Found.Value) != "other's" || a.Found.Reads != 0 {
		t.Errorf("%+v", a.Found)
	}
}

// Names of labels and epochs that look alike are apart (P26.1).
func TestNamesAreApart(t *testing.T) {
	p := open(t, 1, 0)
	p.must(api.OK, create("a", 1, wide))
	p.must(api.OK, put("a", "l", "1"))
	p.ticks(2)
	end := "\x00\x00\x00\x00\x00\x00\x00\x00\x01"
	for _, label := range []string{"l", "l" + end, "l\x00", "l" + end + end, "l"} {
		for epoch := range 3 {
			p.must(api.OK, look("a", label, epoch))
		}
	}
}

// expectUnder: what an Under shows of an id is this member, or none, and that the log has the root.
func expectUnder(t *testing.T, h *host.Host, id string, u wire.Under, m *super.Member) {
	t.Helper()
	if err := super.Check(h.Public(), u.Signed); err != api.OK {
		t.Errorf("%s: signature: %v", id, err)
	}
	if err := rfclog.CheckInclusion(super.Text(u.Signed.Epoch, u.Signed.Root), u.Signed.Epoch, u.Signed.Epoch+1, u.Sums, u.Log); err != api.OK {
		t.Errorf("%s: log: %v", id, err)
	}
	value, there, err := proof.Check(u.Signed.Root, super.Key([]byte(id)), u.Proof)
	if err != api.OK || there != (m != nil) || m != nil && value != super.Value(*m) {
		t.Errorf("%s: proof: %v, %v", id, there, err)
	}
}

// Standing of a member, of one that is gone, and of nobody; what is Under shows it (P26.1).
func TestStanding(t *testing.T) {
	p := open(t, 3, 0)
	for _, id := range []string{"a", "bb", "ccc"} {
		p.must(api.OK, create(id, 1, wide))
		p.must(api.ErrMiss, of(wire.Standing, id))
	}
	p.ticks(2)
	p.must(api.OK, of(wire.Hold, "bb"))
	p.must(api.OK, of(wire.Delete, "ccc"))
	for range 4 {
		for _, id := range []string{"a", "bb", "ccc"} {
			a := p.must(api.OK, of(wire.Standing, id))
			if string(a.Member.Id) != id {
				t.Errorf("%+v", a.Member)
			}
			expectUnder(t, p.host, id, a.Under, &a.Member)
		}
		a := p.must(api.OK, look("a", "l", 0))
		m := p.must(api.OK, of(wire.Standing, "a")).Member
		expectUnder(t, p.host, "a", a.Under, &m)
		p.must(api.ErrMiss, of(wire.Standing, "nobody"))
		p.must(api.ErrMiss, of(wire.Standing, "sixteen bytes id"))
		p.must(api.ErrArg, of(wire.Standing, ""))
		p.must(api.ErrArg, of(wire.Standing, strings.Repeat("i", 17)))
		p.ticks(1)
	}
}

// Growth from and to each count of super-epochs (P26.1).
func TestGrowth(t *testing.T) {
	p := open(t, 1, 0)
	for n := 1; n <= 12; n++ {
		var roots [][32]byte
		for to := range n + 1 {
			roots = append(roots, p.must(api.OK, growth(to, to)).Log)
		}
		if last := p.must(api.OK, growth(0, n)); last.Log != p.account.shown(nil).Log {
			t.Errorf("the log's root of %d", n)
		}
		for from := -1; from <= n+1; from++ {
			for to := -1; to <= n+1; to++ {
				if from < 0 || from > to || to > n {
					p.must(api.ErrArg, growth(from, to))
					continue
				}
				a := p.must(api.OK, growth(from, to))
				if a.Log != roots[to] || rfclog.CheckConsistency(from, to, a.Sums, roots[from], a.Log) != api.OK {
					t.Errorf("growth from %d to %d of %d isn't taken", from, to, n)
				}
			}
		}
		for _, far := range []int{math.MinInt, math.MaxInt, 1 << 32} {
			p.must(api.ErrArg, growth(0, far))
			p.must(api.ErrArg, growth(far, n))
			p.must(api.ErrArg, growth(far, far))
		}
		p.ticks(1)
	}
}

// A tenant that is exported, imported and imported twice, at another host and at the same (P26.1).
func TestExportAndImport(t *testing.T) {
	for _, held := range []bool{false, true} {
		p, other := open(t, 2, 0), open(t, 1, 100)
		p.must(api.OK, create("a", 3, wide))
		p.must(api.OK, put("a", "l", "1"))
		p.ticks(4)
		p.must(api.OK, put("a", "l", "2"))
		if held {
			p.must(api.OK, of(wire.Hold, "a"))
		}
		b := p.must(api.OK, of(wire.Export, "a")).Bundle
		parcel, err := bundle.Unpack(b)
		if err != api.OK || parcel.Period != 3 || parcel.Age != 4 || parcel.Held != held || parcel.Directory.Epoch() != 1 {
			t.Errorf("%+v, %v", parcel, err)
		}
		p.must(api.ErrThere, bring(b))
		if a := other.must(api.OK, bring(b)); a.Epoch != 1 {
			t.Errorf("Epoch %d", a.Epoch)
		}
		other.must(api.ErrThere, bring(b))
		other.must(api.ErrFull, bring(packed("bb")))
		other.must(api.ErrMiss, look("a", "l", -1))
		other.must(api.OK, history("a", "l"))
		if again := other.must(api.OK, of(wire.Export, "a")).Bundle; !bytes.Equal(again, b) {
			t.Error("what is imported is exported otherwise")
		}
		other.expectParts()
		other.ticks(1)
		other.must(api.OK, look("a", "l", -1))
		other.ticks(1) // its age is 6: it is due, if it isn't held
		if a := other.must(api.OK, of(wire.Standing, "a")); a.Member.Epoch != map[bool]int{false: 2, true: 1}[held] {
			t.Errorf("held %v: %+v", held, a.Member)
		}
		p.must(api.OK, of(wire.Delete, "a"))
		p.must(api.ErrGone, bring(b))
		for _, none := range [][]byte{nil, {}, {1}, b[:len(b)-1], append(slices.Clone(b), 0)} {
			p.must(api.ErrBundle, bring(none))
		}
	}
}

// packed: the bundle of a new tenant.
func packed(id string) []byte {
	d, _ := direct.New([]byte(id), keysOf(9), wide)
	b, _ := bundle.Pack(bundle.Parcel{Directory: d, Period: 1})
	return b
}

// Of a tenant of an age that stays: it is due at each tick by a period that divides it, else never (P26.1).
func TestGreatAges(t *testing.T) {
	for _, age := range []int{0, 1, math.MaxInt - 2, math.MaxInt} {
		for _, period := range []int{1, 2, 7, 1000} {
			d, _ := direct.New([]byte("a"), keysOf(1), wide)
			b, _ := bundle.Pack(bundle.Parcel{Directory: d, Period: period, Age: age})
			p := open(t, 1, 0)
			p.must(api.OK, bring(b))
			p.ticks(8)
			again, _ := bundle.Unpack(p.must(api.OK, of(wire.Export, "a")).Bundle)
			if want := age + min(8, math.MaxInt-age); again.Age != want || again.Period != period {
				t.Errorf("age %d, not %d; period %d", again.Age, want, again.Period)
			}
		}
	}
}

// Of refusals that fall together the one that the chapter looks for first is told (P26.1).
func TestOrderOfRefusals(t *testing.T) {
	p := open(t, 3, 0)
	long := strings.Repeat("x", 65)
	p.must(api.OK, create("live", 1, direct.Limits{Labels: 1, Pending: 1, Epochs: 1}))
	p.must(api.OK, create("held", 1, wide))
	p.must(api.OK, create("gone", 1, wide))
	p.ticks(1)
	p.must(api.OK, of(wire.Hold, "held"))
	p.must(api.OK, of(wire.Delete, "gone"))
	p.must(api.OK, create("new", 1, wide)) // no place is free now
	p.must(api.OK, put("live", "l", "1"))

	none := direct.Limits{}
	for _, id := range []string{"live", "held", "gone", "nobody", "", long} {
		for _, period := range []int{math.MinInt, 0, 1001} {
			p.must(api.ErrArg, create(id, period, wide))
			p.must(api.ErrArg, create(id, period, none))
		}
		p.must(api.ErrArg, create(id, 1000, none))
	}
	p.must(api.ErrThere, create("live", 1000, wide))
	p.must(api.ErrThere, create("held", 1, wide))
	p.must(api.ErrGone, create("gone", 1, wide))
	p.must(api.ErrFull, create("nobody", 1, wide))
	p.must(api.ErrArg, create("", 1, wide))
	p.must(api.ErrArg, create(long, 1, wide))

	for _, kind := range []int{wire.Hold, wire.Free, wire.Delete, wire.Export} {
		p.must(api.ErrMiss, of(kind, ""))
		p.must(api.ErrMiss, of(kind, long))
		p.must(api.ErrMiss, of(kind, "nobody"))
		p.must(api.ErrGone, of(kind, "gone"))
	}
	p.must(api.ErrHeld, of(wire.Hold, "held"))
	p.must(api.ErrHeld, of(wire.Free, "live"))

	for _, label := range []string{"", "l", long} {
		for _, value := range []string{"", long} {
			p.must(api.ErrMiss, put("", label, value))
			p.must(api.ErrMiss, put("nobody", label, value))
			p.must(api.ErrGone, put("gone", label, value))
			p.must(api.ErrHeld, put("held", label, value))
			p.must(map[bool]api.Errno{true: api.ErrQuota, false: api.ErrArg}[label == "l" && value == ""], put("live", label, value))
		}
		for _, epoch := range []int{-2, -1, 0, 9} {
			p.must(api.ErrMiss, look("nobody", label, epoch))
			p.must(api.ErrGone, look("gone", label, epoch))
			p.must(api.ErrMiss, look("new", label, epoch))
			if label != "l" {
				p.must(api.ErrArg, look("live", label, epoch))
				p.must(api.ErrArg, look("held", label, epoch))
			}
		}
		p.must(api.ErrMiss, history("nobody", label))
		p.must(api.ErrGone, history("gone", label))
		if label != "l" {
			p.must(api.ErrArg, history("live", label))
		}
	}
	for _, far := range []int{math.MinInt, -1, 2, math.MaxInt} {
		p.must(api.ErrMiss, audit("nobody", 0, far))
		p.must(api.ErrGone, audit("gone", far, 0))
		p.must(api.ErrMiss, audit("live", far, 1))
		p.must(api.ErrMiss, audit("live", 0, far))
	}
	p.must(api.ErrMiss, audit("live", 1, 0))
	p.must(api.ErrMiss, history("live", "l")) // it waits

	p.must(api.ErrBundle, bring(packed("live")[:9]))
	p.must(api.ErrThere, bring(packed("live")))
	p.must(api.ErrThere, bring(packed("held")))
	p.must(api.ErrGone, bring(packed("gone")))
	p.must(api.ErrFull, bring(packed("nobody")))
}

// Kinds that there aren't, by Serve and by Do (P26.1, P26.2).
func TestOtherKinds(t *testing.T) {
	p := open(t, 1, 0)
	p.must(api.OK, create("a", 1, wide))
	for _, kind := range []int{math.MinInt, -1, 0, 13, 14, 255, 256, 257, 1 << 32, math.MaxInt} {
		r := create("bb", 1, wide)
		r.Kind = kind
		if a := p.serve(r); said(a) != said(wire.Answer{Err: api.ErrForm}) {
			t.Errorf("kind %d: %+v", kind, a)
		}
	}
}

// Do answers as Serve, in bytes; bytes that are no request's have an answer of their own (P26.1).
func TestDo(t *testing.T) {
	p, twin := open(t, 2, 0), open(t, 2, 0)
	for _, r := range []wire.Request{
		create("a", 1, wide), create("a", 1, wide), put("a", "l", "1"), of(wire.Hold, "a"), of(wire.Free, "a"), {}, look("a", "l", -1),
		of(wire.Export, "a"), history("a", "l"), audit("a", 0, 1), of(wire.Standing, "a"), growth(0, 1), bring(packed("bb")), of(wire.Delete, "a"),
	} {
		for _, ticked := range []bool{false, true} {
			if ticked {
				p.ticks(1)
				twin.ticks(1)
			}
			b, err := wire.Ask(r)
			if err != api.OK {
				continue
			}
			want, _ := wire.Tell(twin.serve(r))
			p.account.serve(r)
			if got := p.host.Do(b); !bytes.Equal(got, want) || len(got) == 0 {
				t.Errorf("%+v: %x, not %x", r, got, want)
			}
			ahead := p.host.State()
			for _, other := range [][]byte{nil, {}, {0}, {13}, b[:len(b)-1], append(slices.Clone(b), 0)} {
				if got := p.host.Do(other); string(got) != "\x00\x02" {
					t.Errorf("%x: %x", other, got)
				}
			}
			if !bytes.Equal(p.host.State(), ahead) {
				t.Error("bytes that are no request's change something")
			}
		}
		p.expectParts()
	}
}

// A nil host: ErrArg, nothing (P26.1, P1).
func TestNoHost(t *testing.T) {
	var none *host.Host
	if none.Public() != [32]byte{} || none.State() != nil || none.Tick() != api.ErrArg || said(none.Parts()) != said(host.Parts{}) {
		t.Error("a nil host has something")
	}
	if at, err := none.Place([]byte("a")); at != 0 || err != api.ErrArg {
		t.Errorf("Place: %d, %v", at, err)
	}
	for kind := -1; kind <= 14; kind++ {
		r := create("a", 1, wide)
		r.Kind = kind
		want := wire.Answer{Kind: kind, Err: api.ErrArg}
		if kind < 1 || kind > 12 {
			want.Kind = 0
		}
		if a := none.Serve(r); said(a) != said(want) {
			t.Errorf("kind %d: %+v", kind, a)
		}
		b, _ := wire.Ask(r)
		if got := none.Do(b); string(got) != "\x00\x01" {
			t.Errorf("kind %d: %x", kind, got)
		}
	}
}

// The states of tenants are those of layer 22 (P26.1).
func TestStatesInParts(t *testing.T) {
	p := open(t, 3, 7)
	for _, id := range []string{"c", "b", "a"} {
		p.must(api.OK, create(id, 2, wide))
	}
	p.must(api.OK, of(wire.Hold, "b"))
	p.must(api.OK, of(wire.Delete, "a"))
	parts := p.host.Parts()
	if len(parts.Tenants) != 3 || len(parts.Members) != 0 || parts.Now != 7 {
		t.Fatalf("%+v", parts)
	}
	for i, want := range []host.Part{
		{Id: []byte("c"), State: tenant.Live, Place: 0, Period: 2},
		{Id: []byte("b"), State: tenant.Held, Place: 1, Period: 2},
		{Id: []byte("a"), State: tenant.Gone},
	} {
		got := parts.Tenants[i]
		if (got.Directory == nil) != (want.State == tenant.Gone) {
			t.Errorf("%s: %+v", want.Id, got)
		}
		got.Directory = nil
		if said(got) != said(want) {
			t.Errorf("%+v, not %+v", got, want)
		}
	}
	p.ticks(1)
	for _, one := range p.host.Parts().Tenants {
		if one.Public != (one.State != tenant.Gone) || one.Age != map[bool]int{false: 1, true: 0}[one.State == tenant.Gone] {
			t.Errorf("%+v", one)
		}
	}
}
