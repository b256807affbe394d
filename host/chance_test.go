package host_test

import (
	"fmt"
	"math/rand"
	"slices"
	"strings"
	"testing"

	"custumal/api"
	"custumal/direct"
	"custumal/host"
	"custumal/wire"
)

// chance makes requests; taken are the bundles that were told.
type chance struct {
	*rand.Rand
	taken [][]byte
}

func one[T any](c *chance, l ...T) T { return l[c.Intn(len(l))] }

func (c *chance) id() string {
	return one(c, "a", "a", "b", "b", "c", "d", "e", "f", "g", "h", "", "seventeen bytes !")
}

func (c *chance) label() []byte {
	if c.Intn(3) > 0 {
		return []byte(one(c, "a", "b"))
	}
	return []byte(one(c, "a", "b", "c", "d", "e", "", strings.Repeat("l", 32), strings.Repeat("l", 33)))
}

func (c *chance) number() int { return one(c, -2, -1, -1, -1, 0, 1, 2, c.Intn(8), c.Intn(40), 1<<62) }

func (c *chance) limits() direct.Limits {
	if c.Intn(2) > 0 {
		return wide
	}
	return direct.Limits{Labels: one(c, 1, 3, 64, 65), Pending: one(c, 1, 2, 16, 0), Epochs: one(c, 2, 5, 32, 33)}
}

// bundle: one that was told, a new tenant's, or nearly one.
func (c *chance) bundle() []byte {
	if len(c.taken) == 0 || c.Intn(3) == 0 {
		return packed(c.id())
	}
	b := slices.Clone(one(c, c.taken...))
	if c.Intn(6) == 0 {
		b[c.Intn(len(b))] ^= 1
	}
	return b
}

func (c *chance) request() wire.Request {
	kind := c.Intn(13)
	if kind == wire.Delete && c.Intn(2) > 0 || c.Intn(2) == 0 {
		kind = one(c, wire.Create, wire.Put, wire.Put, wire.Put, wire.Lookup, wire.Lookup, wire.Lookup, wire.Free, wire.History, wire.Audit)
	}
	r := wire.Request{Kind: kind, Id: []byte(c.id()), Label: c.label(), From: c.number(), To: c.number()}
	r.Keys, r.Limits, r.Period = keysOf(byte(len(r.Id))), c.limits(), one(c, 0, 1, 1, 1, 1, 2, 2, 2, 3, 1000, 1001)
	r.Value = []byte(one(c, "", "value", strings.Repeat("v", 64), strings.Repeat("v", 65), fmt.Sprint(c.Intn(9))))
	if kind == wire.Import {
		r.Bundle = c.bundle()
	}
	return r
}

// A row of requests and ticks, by chance, is held against the account; now and then the host is rebuilt (P26.1, P26.2).
func TestByChance(t *testing.T) {
	counts := map[string]int{}
	for round := range 10 {
		c := &chance{Rand: rand.New(rand.NewSource(int64(round)))}
		p := open(t, 1+round%5, c.Intn(3))
		for range 400 {
			switch c.Intn(40) {
			case 0:
				p.rebuild()
			case 1, 2, 3, 4, 5:
				p.tick()
			default:
				a := p.serve(c.request())
				counts[fmt.Sprintf("kind %d, error %d", a.Kind, a.Err)]++
				if a.Kind == wire.Lookup && a.Err == api.OK && a.Found.Reads == 0 && a.Found.Present {
					counts["kept"]++
				}
				if a.Kind == wire.Export && a.Err == api.OK {
					c.taken = append(c.taken, a.Bundle)
				}
			}
		}
		p.expectParts()
	}
	// All that may come about did.
	expectCounted(t, counts, wire.Create, api.OK, api.ErrArg, api.ErrThere, api.ErrGone, api.ErrFull)
	expectCounted(t, counts, wire.Hold, api.OK, api.ErrMiss, api.ErrGone, api.ErrHeld)
	expectCounted(t, counts, wire.Free, api.OK, api.ErrMiss, api.ErrGone, api.ErrHeld)
	expectCounted(t, counts, wire.Delete, api.OK, api.ErrMiss, api.ErrGone)
	expectCounted(t, counts, wire.Put, api.OK, api.ErrArg, api.ErrMiss, api.ErrGone, api.ErrHeld, api.ErrQuota)
	expectCounted(t, counts, wire.Lookup, api.OK, api.ErrArg, api.ErrMiss, api.ErrGone)
	expectCounted(t, counts, wire.History, api.OK, api.ErrArg, api.ErrMiss, api.ErrGone)
	expectCounted(t, counts, wire.Audit, api.OK, api.ErrMiss, api.ErrGone)
	expectCounted(t, counts, wire.Export, api.OK, api.ErrMiss, api.ErrGone)
	expectCounted(t, counts, wire.Import, api.OK, api.ErrBundle, api.ErrThere, api.ErrGone, api.ErrFull)
	expectCounted(t, counts, wire.Standing, api.OK, api.ErrArg, api.ErrMiss)
	expectCounted(t, counts, wire.Growth, api.OK, api.ErrArg)
	expectCounted(t, counts, 0, api.ErrForm)
	if counts["kept"] == 0 {
		t.Error("no look was kept")
	}
}

func expectCounted(t *testing.T, counts map[string]int, kind int, errs ...api.Errno) {
	t.Helper()
	for _, err := range errs {
		if name := fmt.Sprintf("kind %d, error %d", kind, err); counts[name] == 0 {
			t.Errorf("%s never came about", name)
		}
	}
}

// What others do changes no answer of a tenant's, but for Under, and ErrFull (P26.3).
func TestOthersChangeNothing(t *testing.T) {
	const own = "own"
	looks := 0
	for round := range 6 {
		c := &chance{Rand: rand.New(rand.NewSource(int64(100 + round)))}
		alone, among := newHost(t, 5), newHost(t, 5)
		others := &chance{Rand: rand.New(rand.NewSource(int64(200 + round)))}
		for step := range 250 {
			for range others.Intn(4) {
				// Others are let in at four places alone, so that one is always left.
				r := others.request()
				isNew := r.Kind == wire.Create || r.Kind == wire.Import
				if isNew && full(among, 4) || r.Kind == wire.Import && strings.Contains(string(r.Bundle), own) {
					continue
				}
				if a := among.Serve(r); a.Kind == wire.Export && a.Err == api.OK {
					others.taken = append(others.taken, a.Bundle)
				}
			}
			if c.Intn(6) == 0 {
				if alone.Tick() != api.OK || among.Tick() != api.OK {
					t.Fatal("no tick")
				}
				continue
			}
			r := c.request()
			if r.Kind == wire.Delete && step < 220 || r.Kind == wire.Growth || r.Kind == wire.Import && len(c.taken) == 0 {
				continue
			}
			r.Id = []byte(own)
			if r.Kind == wire.Import {
				r.Bundle = c.taken[0]
			}
			one, other := alone.Serve(r), among.Serve(r)
			one.Under, other.Under = wire.Under{}, wire.Under{}
			if said(one) != said(other) {
				t.Fatalf("%+v:\n%.900s\nnot\n%.900s", r, said(other), said(one))
			}
			if one.Kind == wire.Export && one.Err == api.OK {
				c.taken = append(c.taken, one.Bundle)
			}
			if one.Kind == wire.Lookup && one.Found.Present {
				looks++
			}
		}
	}
	if looks < 20 {
		t.Errorf("only %d looks told a value", looks)
	}
}

func newHost(t *testing.T, places int) *host.Host {
	t.Helper()
	h, err := host.New(seed, places, 0)
	if err != api.OK {
		t.Fatal(err)
	}
	return h
}

// full: do so many others have a place?
func full(h *host.Host, count int) bool {
	for _, p := range h.Parts().Tenants {
		if string(p.Id) != "own" && p.Directory != nil {
			count--
		}
	}
	return count <= 0
}

// Two hosts with one State answer the same from then on, but for Reads; and their States stay one (P26.1).
func TestOfOneState(t *testing.T) {
	for round := range 6 {
		c := &chance{Rand: rand.New(rand.NewSource(int64(300 + round)))}
		h := newHost(t, 3)
		step := func(all ...*host.Host) {
			r := c.request()
			tick := c.Intn(8) == 0
			var first string
			for i, h := range all {
				var now string
				if tick {
					now = said(h.Tick())
				} else {
					a := h.Serve(r)
					a.Found.Reads = 0
					now = said(a)
				}
				now += said(h.State())
				if i == 0 {
					first = now
				} else if now != first {
					t.Fatalf("%+v:\n%.900s\nnot\n%.900s", r, now, first)
				}
			}
		}
		for range 60 {
			step(h)
		}
		parts := h.Parts()
		for i, p := range parts.Tenants {
			parts.Tenants[i].Directory = copyOf(t, p.Directory)
		}
		other, err := host.Rebuild(seed, 3, parts)
		if err != api.OK || string(other.State()) != string(h.State()) {
			t.Fatalf("Rebuild: %v, or another State", err)
		}
		for range 100 {
			step(h, other)
		}
	}
}
