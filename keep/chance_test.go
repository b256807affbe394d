package keep_test

import (
	"fmt"
	"math/rand"
	"slices"
	"strings"
	"testing"

	"custumal/api"
	"custumal/direct"
	"custumal/host"
	"custumal/keep"
	"custumal/super"
	"custumal/wire"
)

// chance makes requests; taken are the bundles that were told.
type chance struct {
	*rand.Rand
	taken [][]byte
}

func one[T any](c *chance, l ...T) T { return l[c.Intn(len(l))] }

func (c *chance) id() string {
	if c.Intn(4) > 0 {
		return one(c, "a", "b", "c")
	}
	return one(c, "d", "e", "f", "g", "h", "i", "sixteen bytes id")
}

func (c *chance) bundle() []byte {
	if len(c.taken) == 0 || c.Intn(3) == 0 {
		return packed(c.id(), c.Intn(4), 1+c.Intn(3), c.Intn(9), c.Intn(2) > 0)
	}
	b := slices.Clone(one(c, c.taken...))
	if c.Intn(6) == 0 {
		b[c.Intn(len(b))] ^= 1
	}
	return b
}

func (c *chance) request() wire.Request {
	kind := one(c, wire.Create, wire.Create, wire.Put, wire.Put, wire.Put, wire.Put, wire.Put, wire.Lookup, wire.Lookup, wire.Standing, wire.Standing, wire.Growth,
		wire.Hold, wire.Free, wire.Free, wire.Delete, wire.Import, wire.Export, wire.History, wire.Audit)
	if kind == wire.Delete && c.Intn(2) > 0 {
		kind = wire.Put // who is deleted never comes back
	}
	r := wire.Request{Kind: kind, Id: []byte(c.id()), Label: []byte(one(c, "l", "m", strings.Repeat("l", 32), ""))}
	r.From, r.To = one(c, -1, 0, 1), c.Intn(4)
	r.Keys = direct.Keys{Vrf: [32]byte{byte(len(r.Id))}}
	r.Limits, r.Period = one(c, wide, wide, direct.Limits{Labels: 1, Pending: 2, Epochs: 3}), one(c, 0, 1, 1, 2, 3)
	r.Value = []byte(one(c, "", "v", fmt.Sprint(c.Intn(9)), strings.Repeat("v", 64)))
	if kind == wire.Import {
		r.Bundle = c.bundle()
	}
	return r
}

// A row of requests and ticks, by chance, is held against the account, block by block; now and then the store is opened again (P27.1).
func TestByChance(t *testing.T) {
	t.Parallel()
	counts := map[string]int{}
	for round := range 8 {
		c := &chance{Rand: rand.New(rand.NewSource(int64(round)))}
		p := formatted(t, keep.Config{Seed: [32]byte{byte(round)}, Places: 2 + round%4, Now: round, Common: 30 + 10*round, Each: 9})
		for range 250 {
			switch c.Intn(30) {
			case 0:
				p.reopen()
			case 1, 2, 3:
				want := api.OK
				if p.store.Room() == 0 {
					want = api.ErrFull
				}
				p.tick(want)
			default:
				a := p.do(c.request())
				counts[fmt.Sprintf("kind %d, error %d", a.Kind, a.Err)]++
				if a.Kind == wire.Export && a.Err == api.OK {
					c.taken = append(c.taken, a.Bundle)
				}
			}
		}
		p.reopen()
	}
	for kind, errs := range map[int][]api.Errno{
		wire.Create: {api.OK, api.ErrArg, api.ErrThere, api.ErrGone, api.ErrFull},
		wire.Hold:   {api.OK, api.ErrMiss, api.ErrGone, api.ErrHeld, api.ErrFull},
		wire.Free:   {api.OK, api.ErrMiss, api.ErrGone, api.ErrHeld, api.ErrFull},
		wire.Delete: {api.OK, api.ErrMiss, api.ErrGone, api.ErrFull},
		wire.Put:    {api.OK, api.ErrArg, api.ErrMiss, api.ErrGone, api.ErrHeld, api.ErrQuota, api.ErrFull},
		wire.Import: {api.OK, api.ErrBundle, api.ErrThere, api.ErrGone, api.ErrFull},
		wire.Lookup: {api.OK, api.ErrArg, api.ErrMiss, api.ErrGone},
	} {
		for _, err := range errs {
			if name := fmt.Sprintf("kind %d, error %d", kind, err); counts[name] == 0 {
				t.Errorf("%s never came about", name)
			}
		}
	}
}

// A ledger is what a client was told, over all crashes.
type ledger struct {
	t     *testing.T
	roots map[int]super.Signed
}

// hear: a super-root that was told is the one that was told ahead (P27.3).
func (l *ledger) hear(s super.Signed) {
	l.t.Helper()
	if was, there := l.roots[s.Epoch]; there && was != s {
		l.t.Fatalf("super-epoch %d: two roots, %x and %x", s.Epoch, was.Root, s.Root)
	}
	l.roots[s.Epoch] = s
}

// expect: none that was told is lost (P27.3).
func (l *ledger) expect(h *host.Host) {
	l.t.Helper()
	all := h.Parts().Signed
	for n, s := range l.roots {
		if n >= len(all) || all[n] != s {
			l.t.Fatalf("super-epoch %d was told, and is lost", n)
		}
	}
}

// Crashes by chance, one behind the other, of one disk: what was answered is there, what was under way wholly or not at all; super-roots that were told stay; who was deleted has left nothing (P27.2 to P27.4).
func TestCrashesByChance(t *testing.T) {
	t.Parallel()
	crashed, kept, told := 0, 0, 0
	for round := range 6 {
		c := &chance{Rand: rand.New(rand.NewSource(int64(100 + round)))}
		p := formatted(t, keep.Config{Seed: [32]byte{byte(round), 2}, Places: 1 + round%4, Common: 90, Each: 14})
		p.crashed = true
		heard := &ledger{t, map[int]super.Signed{}}
		for range 120 {
			if c.Intn(4) == 0 {
				p.disk.Arm(1 + c.Intn(4))
			}
			r := c.request()
			if c.Intn(5) == 0 {
				r = wire.Request{}
			}
			ahead := p.account.host.State()
			known := p.known()
			err, a := p.step(r)
			if err != api.ErrDown {
				p.applied(r, err, known)
				if a.Kind == wire.Standing && err == api.OK || a.Kind == wire.Lookup && err == api.OK {
					heard.hear(a.Under.Signed)
					told++
				}
				if a.Kind == wire.Export && err == api.OK {
					c.taken = append(c.taken, a.Bundle)
				}
				if c.Intn(3) > 0 {
					continue
				}
			}
			// The power goes off, if it isn't.
			keeps := make([]bool, p.disk.Waiting())
			for i := range keeps {
				keeps[i] = c.Intn(2) > 0
			}
			p.disk.Crash(keeps)
			crashed++
			p.store = opened(t, p.disk, p.account.c)
			if err == api.ErrDown && string(p.store.Host().State()) != string(ahead) {
				apply(t, p.account.host, r)
				kept++
			}
			p.account.reopen(t)
			if string(p.store.Host().State()) != string(p.account.host.State()) {
				t.Fatalf("round %d: %+x: another State", round, r)
			}
			heard.expect(p.store.Host())
			expectClean(t, p.disk, p.account.c, p.store.Host(), "behind a crash")
		}
	}
	if crashed < 200 || kept < 10 || told < 20 {
		t.Errorf("only %d crashes, %d kept what was under way, %d roots were told", crashed, kept, told)
	}
}

// known: how much room all journals have, as the records on the disk tell.
func (p *pair) known() []int {
	c := p.account.c
	rooms := []int{c.Common - blocksFor(recordsAt(p.t, p.disk, 0, c.Common))}
	for at := range c.Places {
		rooms = append(rooms, c.Each-blocksFor(recordsAt(p.t, p.disk, c.Common+at*c.Each, c.Each)))
	}
	return rooms
}

func (p *pair) step(r wire.Request) (api.Errno, wire.Answer) {
	if r.Kind == 0 {
		return p.store.Tick(), wire.Answer{}
	}
	b, _ := wire.Ask(r)
	a, err := wire.Told(p.store.Do(b))
	if err != api.OK {
		p.t.Fatal(err)
	}
	return a.Err, a
}

// applied: the plain host answers alike, but for ErrFull where journals have no room.
func (p *pair) applied(r wire.Request, err api.Errno, rooms []int) {
	p.t.Helper()
	b, _ := wire.Ask(r)
	need := blocksFor([][]byte{b})
	changes := slices.Contains([]int{0, wire.Create, wire.Hold, wire.Free, wire.Delete, wire.Put, wire.Import}, r.Kind)
	full := changes && rooms[0] == 0 || r.Kind == wire.Import && need > p.account.c.Each
	if at, e := p.account.host.Place(r.Id); r.Kind == wire.Put && e == api.OK && need > rooms[1+at] {
		full = true
	}
	want := api.ErrFull
	if r.Kind == 0 && !full {
		want = p.account.host.Tick()
	} else if !full {
		want = p.account.host.Serve(r).Err
	}
	if err != want {
		p.t.Fatalf("%+x: %v, not %v", r, err, want)
	}
}
