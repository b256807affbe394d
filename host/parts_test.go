package host_test

import (
	"fmt"
	"math"
	"slices"
	"strings"
	"testing"

	"custumal/api"
	"custumal/bundle"
	"custumal/direct"
	"custumal/host"
	"custumal/super"
	"custumal/tenant"
	"custumal/wire"
)

// copyOf: another directory that was told the same (nil of nil).
func copyOf(t *testing.T, d *direct.Directory) *direct.Directory {
	t.Helper()
	if d == nil {
		return nil
	}
	b, _ := bundle.Pack(bundle.Parcel{Directory: d, Period: 1})
	p, err := bundle.Unpack(b)
	if err != api.OK {
		t.Fatal(err)
	}
	return p.Directory
}

// lived: a host of live, held and gone tenants, with puts that wait, and with some that came and went since the last tick.
func lived(t *testing.T) *pair {
	t.Helper()
	p := open(t, 6, 3)
	for i, id := range []string{"live", "held", "gone", "other"} {
		p.must(api.OK, create(id, i+1, wide))
		p.must(api.OK, put(id, "l", id))
	}
	p.ticks(2)
	p.must(api.OK, of(wire.Hold, "held"))
	p.must(api.OK, of(wire.Delete, "gone"))
	p.ticks(1)
	p.must(api.OK, of(wire.Delete, "other"))
	p.must(api.OK, create("new", 1000, wide))
	p.must(api.OK, put("live", "m", "waits"))
	p.must(api.OK, of(wire.Hold, "new"))
	p.must(api.OK, create("newer", 1, wide))
	p.must(api.OK, of(wire.Delete, "newer"))
	return p
}

// Rebuilt, a host of no tenant, of live, held and gone ones is as it was, and goes on so; its cache is empty (P26.1).
func TestRebuild(t *testing.T) {
	for _, p := range []*pair{open(t, 1, 0), open(t, 8, math.MaxInt), lived(t)} {
		for range 3 {
			p.rebuild()
			for _, id := range []string{"live", "held", "gone", "other", "new", "newer", "nobody"} {
				for range 2 {
					p.serve(look(id, "l", -1))
					p.serve(look(id, "l", 0))
				}
				p.serve(of(wire.Standing, id))
				p.serve(of(wire.Export, id))
			}
			p.serve(growth(1, 2))
			p.serve(create("more", 1, wide))
			p.serve(put("more", "l", "1"))
			p.tick()
		}
	}
}

// The members of the last super-epoch are told as they stood there, in the order of the tenants as they are now (P26.1).
func TestMembersInParts(t *testing.T) {
	p := lived(t)
	parts := p.host.Parts()
	var ids []string
	for _, part := range parts.Tenants {
		ids = append(ids, string(part.Id))
	}
	if want := []string{"live", "held", "new", "gone", "newer", "other"}; !slices.Equal(ids, want) {
		t.Errorf("tenants: %q", ids)
	}
	ids = nil
	for _, m := range parts.Members {
		ids = append(ids, fmt.Sprintf("%s %v %d", m.Id, m.Gone, m.Epoch))
	}
	if want := []string{"live false 3", "held false 1", "gone true 0", "other false 0"}; !slices.Equal(ids, want) {
		t.Errorf("members: %q", ids)
	}
	again, err := super.Restore(seed, parts.Signed, parts.Members)
	if err != api.OK || again.Epochs() != 4 {
		t.Errorf("%v", err)
	}
}

// The directories of parts are the very ones (P26.1).
func TestTheVeryDirectories(t *testing.T) {
	p := lived(t)
	one, other := p.host.Parts(), p.host.Parts()
	h, err := host.Rebuild(seed, 6, one)
	if err != api.OK {
		t.Fatal(err)
	}
	again := h.Parts()
	for i := range one.Tenants {
		d := one.Tenants[i].Directory
		if d != other.Tenants[i].Directory || d != again.Tenants[i].Directory || (d == nil) != (one.Tenants[i].State == tenant.Gone) {
			t.Errorf("%s has another directory", one.Tenants[i].Id)
		}
	}
	d := one.Tenants[0].Directory
	if err := d.Put([]byte("put"), nil); err != api.OK {
		t.Fatal(err)
	}
	if p.host.Parts().Tenants[0].Directory.Waiting() != 2 || string(h.State()) != string(p.host.State()) {
		t.Error("a put isn't seen")
	}
}

// Parts that don't fit together make no host; of faults that fall together the first is told (P26.1).
func TestRebuildOfNone(t *testing.T) {
	good := lived(t).host.Parts()
	h, err := host.Rebuild(seed, 6, good)
	if h == nil || err != api.OK {
		t.Fatal(err)
	}
	d := good.Tenants[0].Directory
	with := func(changes ...func(p *host.Parts)) host.Parts {
		p := host.Parts{Now: good.Now, Tenants: slices.Clone(good.Tenants), Signed: slices.Clone(good.Signed), Members: slices.Clone(good.Members)}
		for _, change := range changes {
			change(&p)
		}
		return p
	}
	part := func(p host.Part) func(*host.Parts) {
		return func(all *host.Parts) { all.Tenants = append(all.Tenants, p) }
	}
	now := func(n int) func(*host.Parts) { return func(p *host.Parts) { p.Now = n } }
	live := func(id string, place, period, age int) func(*host.Parts) {
		return part(host.Part{Id: []byte(id), State: tenant.Live, Place: place, Period: period, Age: age, Directory: d})
	}
	noSigned := func(p *host.Parts) { p.Signed = nil }
	falseSigned := func(p *host.Parts) { p.Signed[1].Sig[0]++ }
	falseMembers := func(p *host.Parts) { p.Members = p.Members[1:] }
	for i, c := range []struct {
		places int
		parts  host.Parts
		want   api.Errno
	}{
		{0, good, api.ErrArg},
		{9, good, api.ErrArg},
		{-1, good, api.ErrArg},
		{6, with(now(-1)), api.ErrArg},
		{6, with(now(math.MinInt), part(host.Part{Id: []byte("live"), State: tenant.Gone})), api.ErrArg},
		{2, good, api.ErrArg}, // a place that there isn't
		{6, with(part(host.Part{Id: []byte("x"), State: tenant.Nobody, Place: 5, Period: 1, Directory: d})), api.ErrArg},
		{6, with(part(host.Part{Id: []byte("x"), State: 4, Place: 5, Period: 1, Directory: d})), api.ErrArg},
		{6, with(part(host.Part{Id: []byte("x"), State: tenant.Live, Place: 5, Period: 1})), api.ErrArg},
		{6, with(part(host.Part{State: tenant.Gone})), api.ErrArg},
		{6, with(live("", 5, 1, 0)), api.ErrArg},
		{6, with(live(strings.Repeat("i", 17), 5, 1, 0)), api.ErrArg},
		{6, with(live("x", -1, 1, 0)), api.ErrArg},
		{6, with(live("x", 6, 1, 0)), api.ErrArg},
		{6, with(live("live", 5, 1, 0)), api.ErrThere},
		{6, with(live("gone", 5, 1, 0)), api.ErrThere},
		{6, with(part(host.Part{Id: []byte("held"), State: tenant.Gone})), api.ErrThere},
		{6, with(live("x", 0, 1, 0)), api.ErrFull},
		{6, with(live("x", 5, 0, 0)), api.ErrArg},
		{6, with(live("x", 5, 1001, 0)), api.ErrArg},
		{6, with(live("x", 5, 1, -1)), api.ErrArg},
		{6, with(noSigned), api.ErrFalse},
		{6, with(falseSigned), api.ErrFalse},
		{6, with(falseMembers), api.ErrFalse},
		{6, with(func(p *host.Parts) { p.Members = nil }), api.ErrFalse},
		{6, with(func(p *host.Parts) { p.Signed = p.Signed[:3] }), api.ErrFalse},
		{6, with(func(p *host.Parts) { p.Signed = p.Signed[1:] }), api.ErrFalse},
		// The table's ahead of the schedule's, both ahead of what is signed.
		{6, with(live("x", 5, 0, 0), live("live", 4, 1, 0)), api.ErrThere},
		{6, with(live("x", 5, 1, -1), live("y", 5, 1, 0)), api.ErrFull},
		{6, with(live("y", 0, 0, 0), noSigned), api.ErrFull},
		{6, with(live("x", 5, 0, 0), falseSigned), api.ErrArg},
		{6, with(now(-1), live("y", 0, 0, 0)), api.ErrArg},
		{6, host.Parts{}, api.ErrFalse},
	} {
		if h, err := host.Rebuild(seed, c.places, c.parts); h != nil || err != c.want {
			t.Errorf("%d: %v, not %v", i, err, c.want)
		}
	}
	if h, err := host.Rebuild([32]byte{9}, 6, good); h != nil || err != api.ErrFalse {
		t.Errorf("another seed: %v", err)
	}
	for i, p := range []host.Parts{
		with(live("x", 5, 1000, math.MaxInt)),
		with(now(0)),
		with(func(p *host.Parts) { slices.Reverse(p.Tenants); slices.Reverse(p.Members) }),
		with(part(host.Part{Id: []byte("x"), State: tenant.Gone, Place: -9, Period: -1, Age: -1, Directory: d, Public: true})),
		with(func(p *host.Parts) { p.Members = append(slices.Clone(p.Members[:1]), p.Members...) }),
	} {
		h, err := host.Rebuild(seed, 6, p)
		if h == nil || err != api.OK {
			t.Errorf("%d: %v", i, err)
			continue
		}
		again, err := host.Rebuild(seed, 6, h.Parts())
		if err != api.OK || string(again.State()) != string(h.State()) || partsText(again.Parts()) != partsText(h.Parts()) {
			t.Errorf("%d: rebuilt again: %v", i, err)
		}
	}
}

// The order in which parts are handed in is nothing; of one that is gone only its id is something; of members told twice the last counts (P26.1).
func TestRebuildOtherwiseTold(t *testing.T) {
	p := lived(t)
	want := p.host.State()
	parts := p.host.Parts()
	slices.Reverse(parts.Tenants)
	slices.Reverse(parts.Members)
	for i := range parts.Tenants {
		if one := &parts.Tenants[i]; one.State == tenant.Gone {
			one.Place, one.Period, one.Age, one.Directory, one.Public = 0, -1, -1, parts.Tenants[5].Directory, true
		}
	}
	turned := super.Member{Id: []byte("live"), Gone: true}
	parts.Members = append([]super.Member{turned}, parts.Members...)
	h, err := host.Rebuild(seed, 6, parts)
	if err != api.OK || string(h.State()) != string(want) {
		t.Fatalf("%v, or another State", err)
	}
	if a := h.Serve(of(wire.Standing, "live")); a.Member.Gone || a.Member.Epoch != 3 {
		t.Errorf("%+v", a.Member)
	}
	// Of a member that is gone nothing else stands under a root.
	for i := range parts.Members {
		if m := &parts.Members[i]; string(m.Id) == "gone" {
			m.Epoch, m.Link = 5, [32]byte{5}
		}
	}
	h, err = host.Rebuild(seed, 6, parts)
	if err != api.OK || string(h.State()) != string(want) {
		t.Fatalf("%v, or another State", err)
	}
	if a := h.Serve(of(wire.Standing, "gone")); !a.Member.Gone || a.Member.Epoch != 0 || a.Member.Link != [32]byte{} {
		t.Errorf("%+v", a.Member)
	}
	// Who is a member and no tenant stands under the root all the same.
	bare := host.Parts{Signed: parts.Signed, Members: parts.Members}
	h, err = host.Rebuild(seed, 1, bare)
	if err != api.OK {
		t.Fatal(err)
	}
	if got := h.Parts(); len(got.Members) != 0 || len(got.Tenants) != 0 || len(got.Signed) != 4 {
		t.Errorf("%+v", got)
	}
	if a := h.Serve(of(wire.Standing, "other")); a.Err != api.OK || a.Member.Epoch != 0 || a.Member.Gone {
		t.Errorf("%+v", a)
	}
}

// Whatever is another one at a host is another State; what is the same is one (P26.1).
func TestState(t *testing.T) {
	states := map[string]string{}
	add := func(why string, h *host.Host, err api.Errno) {
		t.Helper()
		if err != api.OK {
			t.Fatalf("%s: %v", why, err)
		}
		s := string(h.State())
		if other, there := states[s]; there {
			t.Errorf("%q and %q have one State", why, other)
		}
		if s != string(h.State()) || len(s) == 0 {
			t.Errorf("%q: State is told otherwise", why)
		}
		states[s] = why
	}
	add2 := func(why string, h *host.Host) { t.Helper(); add(why, h, api.OK) }
	h, err := host.New(seed, 2, 0)
	add("new", h, err)
	h, err = host.New([32]byte{9}, 2, 0)
	add("another seed", h, err)
	h, err = host.New(seed, 3, 0)
	add("more places", h, err)
	h, err = host.New(seed, 2, 1)
	add("a later tick", h, err)
	made := func(why string, all ...wire.Request) *host.Host {
		t.Helper()
		h, _ := host.New(seed, 2, 0)
		for _, r := range all {
			if r.Kind == 0 {
				h.Tick()
			} else if a := h.Serve(r); a.Err != api.OK {
				t.Fatalf("%s: %+v", why, a)
			}
		}
		add2(why, h)
		return h
	}
	tick := wire.Request{}
	tight := direct.Limits{Labels: 63, Pending: 16, Epochs: 32}
	a, b := create("a", 1, wide), create("b", 1, wide)
	made("a tick", tick)
	made("two ticks", tick, tick)
	made("a", a)
	made("another id", b)
	made("another period", create("a", 2, wide))
	made("another limit", create("a", 1, tight))
	made("a put", a, put("a", "l", "1"))
	made("another value", a, put("a", "l", "2"))
	made("another label", a, put("a", "m", "1"))
	made("two puts", a, put("a", "l", "1"), put("a", "m", "1"))
	made("two puts, the other way", a, put("a", "m", "1"), put("a", "l", "1"))
	made("held", a, of(wire.Hold, "a"))
	made("gone", a, of(wire.Delete, "a"))
	made("a and b", a, b)
	made("b and a", b, a)
	made("a tick ahead", tick, a)
	made("a tick behind", a, tick)
	made("a put and a tick", a, put("a", "l", "1"), tick)
	made("a tick and a put", a, tick, put("a", "l", "1"))
	made("held, a tick, free", a, of(wire.Hold, "a"), tick, of(wire.Free, "a"))
	made("gone ahead of a tick", a, of(wire.Delete, "a"), tick)
	made("gone behind a tick", a, tick, of(wire.Delete, "a"))
	made("b gone", b, of(wire.Delete, "b"))
	made("gone, and two ticks", a, of(wire.Delete, "a"), tick, tick)
	made("gone between two ticks", a, tick, of(wire.Delete, "a"), tick)
	made("b at the place of a", a, of(wire.Delete, "a"), b)
	held := made("a tick, held", a, tick, of(wire.Hold, "a"))
	held.Serve(of(wire.Free, "a"))
	if why := states[string(held.State())]; why != "a tick behind" {
		t.Errorf("freed, it is as %q", why)
	}
	// What is read changes nothing.
	for _, r := range []wire.Request{look("a", "l", -1), look("a", "l", 0), history("a", "l"), audit("a", 0, 1), of(wire.Export, "a"), of(wire.Standing, "a"), growth(0, 1)} {
		if held.Serve(r); states[string(held.State())] != "a tick behind" {
			t.Errorf("%+v changes State", r)
		}
	}
	// Published or not, of an age or another, with another member's word: by parts.
	parts := held.Parts()
	parts.Tenants[0].Public = false
	h, err = host.Rebuild(seed, 2, parts)
	add("not published", h, err)
	parts.Tenants[0].Age++
	h, err = host.Rebuild(seed, 2, parts)
	add("older", h, err)
	parts.Tenants[0].Place = 1
	h, err = host.Rebuild(seed, 2, parts)
	add("at another place", h, err)
	parts.Now++
	h, err = host.Rebuild(seed, 2, parts)
	add("at another tick", h, err)
}

// Who isn't published isn't looked up, whatever else its parts say (P26.1).
func TestPublishedByParts(t *testing.T) {
	p := lived(t)
	parts := p.host.Parts()
	parts.Tenants[0].Public = false
	parts.Tenants[2].Public = true
	h, err := host.Rebuild(seed, 6, parts)
	if err != api.OK {
		t.Fatal(err)
	}
	if a := h.Serve(look("live", "l", -1)); a.Err != api.ErrMiss {
		t.Errorf("%+v", a)
	}
	if a := h.Serve(look("new", "l", -1)); a.Err != api.OK {
		t.Errorf("%+v", a)
	}
	if got := h.Parts(); got.Tenants[0].Public || !got.Tenants[1].Public || !got.Tenants[2].Public {
		t.Errorf("%+v", got.Tenants)
	}
	h.Tick()
	if a := h.Serve(look("live", "l", -1)); a.Err != api.OK {
		t.Errorf("%+v", a)
	}
}
