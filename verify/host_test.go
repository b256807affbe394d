package verify_test

import (
	"fmt"
	"math/rand"
	"strings"
	"testing"

	"custumal/api"
	"custumal/bundle"
	"custumal/direct"
	"custumal/host"
	"custumal/rfclog"
	"custumal/super"
	"custumal/verify"
	"custumal/vrf"
	"custumal/wire"
)

// A world is a host, of which all is known, and a client that knows its public bytes alone.
type world struct {
	t     *testing.T
	host  *host.Host
	taken map[string]int // answers, by what they were of
}

func newWorld(t *testing.T, round int) *world {
	t.Helper()
	h, err := host.New([32]byte{byte(round)}, 5, 0)
	if err != api.OK {
		t.Fatal(err)
	}
	return &world{t, h, map[string]int{}}
}

// ask: by bytes, as a client does.
func (w *world) ask(r wire.Request) wire.Answer {
	w.t.Helper()
	b, err := wire.Ask(r)
	if err != api.OK {
		w.t.Fatalf("%+v: %v", r, err)
	}
	a, err := wire.Told(w.host.Do(b))
	if err != api.OK {
		w.t.Fatalf("%+v: %v", r, err)
	}
	return a
}

func (w *world) part(id string) host.Part {
	for _, p := range w.host.Parts().Tenants {
		if string(p.Id) == id {
			return p
		}
	}
	w.t.Fatalf("%q isn't there", id)
	return host.Part{}
}

// shown: what a look shows of that label, if the host tells the truth.
func (w *world) shown(id, label string, at int) verify.Seen {
	p, parts := w.part(id), w.host.Parts()
	last := parts.Signed[len(parts.Signed)-1]
	if at == -1 {
		at = p.Directory.Epoch()
	}
	marks, _ := p.Directory.Audit(p.Directory.Epoch(), p.Directory.Epoch())
	s := verify.Seen{Super: last.Epoch, Root: last.Root, Epoch: marks[0].Epoch, Link: marks[0].Link, At: at}
	proof, _ := vrf.Prove(p.Directory.Keys().Vrf, []byte(label))
	sum, _ := vrf.Sum(proof)
	s.Index = vrf.Index(sum)
	entries, _ := p.Directory.History([]byte(label))
	for _, e := range entries {
		if e.Epoch <= at {
			s.Present, s.Version, s.Value = true, e.Version, e.Value
		}
	}
	return s
}

// look: it is taken, if it is told, and shows what is so (P28.2).
func (w *world) look(id, label string, at int) {
	w.t.Helper()
	a := w.ask(wire.Request{Kind: wire.Lookup, Id: []byte(id), Label: []byte(label), From: at})
	if a.Err != api.OK {
		return
	}
	s, err := verify.Look(w.host.Public(), []byte(id), []byte(label), a)
	if want := w.shown(id, label, at); err != api.OK || said(s) != said(want) {
		w.t.Fatalf("a look for %q of %q at %d: %v\n%s\nnot\n%s", label, id, at, err, said(s), said(want))
	}
	w.taken[fmt.Sprintf("look, present %t, kept %t, later %t", s.Present, a.Found.Reads == 0 && s.At > 0, len(a.Later) > 0)]++
}

// stand: likewise (P28.2).
func (w *world) stand(id string) {
	w.t.Helper()
	a := w.ask(wire.Request{Kind: wire.Standing, Id: []byte(id)})
	if a.Err != api.OK {
		return
	}
	parts := w.host.Parts()
	last := parts.Signed[len(parts.Signed)-1]
	want := verify.Seen{Super: last.Epoch, Root: last.Root}
	for _, m := range parts.Members {
		if string(m.Id) == id {
			want.Gone, want.Epoch, want.Link = m.Gone, m.Epoch, m.Link
		}
	}
	s, err := verify.Stand(w.host.Public(), []byte(id), a)
	if err != api.OK || said(s) != said(want) {
		w.t.Fatalf("how %q stands: %v\n%s\nnot\n%s", id, err, said(s), said(want))
	}
	w.taken[fmt.Sprintf("stand, gone %t", s.Gone)]++
}

// grow: the log's growth between any two of its lengths (P28.2).
func (w *world) grow(from, to int) {
	w.t.Helper()
	a := w.ask(wire.Request{Kind: wire.Growth, From: from, To: to})
	log := &rfclog.Log{}
	for _, s := range w.host.Parts().Signed {
		log.Add(super.Text(s.Epoch, s.Root))
	}
	if from < 0 || from > to || to > log.Len() {
		if a.Err != api.ErrArg {
			w.t.Fatalf("growth from %d to %d: %v", from, to, a.Err)
		}
		return
	}
	old, _ := log.Root(from)
	if root, _ := log.Root(to); a.Log != root {
		w.t.Fatalf("growth from %d to %d: another root", from, to)
	}
	if err := verify.Grow(from, to, old, a); err != api.OK {
		w.t.Fatalf("growth from %d to %d: %v", from, to, err)
	}
	w.taken["growth"]++
}

func (w *world) change(c *rand.Rand) {
	id := []byte(string(rune('a' + c.Intn(6))))
	keys := direct.Keys{Vrf: [32]byte{id[0]}, Bind: [32]byte{id[0]}}
	r := wire.Request{Id: id, Label: []byte(labelOf(c)), Value: []byte(strings.Repeat("v", c.Intn(65)))}
	switch c.Intn(24) {
	case 0, 1, 2:
		r.Kind, r.Keys, r.Period, r.Limits = wire.Create, keys, 1+c.Intn(3), direct.Limits{Labels: 5, Pending: 4, Epochs: 12}
	case 3:
		r.Kind = wire.Hold
	case 4, 5:
		r.Kind = wire.Free
	case 6:
		if r.Kind = wire.Delete; c.Intn(4) > 0 {
			r.Kind = wire.Free
		}
	case 7:
		d, _ := direct.New(id, keys, direct.Limits{Labels: 3, Pending: 4, Epochs: 9})
		for range c.Intn(4) {
			d.Put([]byte(labelOf(c)), id)
			d.Seal()
		}
		b, _ := bundle.Pack(bundle.Parcel{Directory: d, Period: 1 + c.Intn(2), Age: c.Intn(5), Held: c.Intn(3) == 0})
		r.Kind, r.Bundle = wire.Import, b
	case 8, 9, 10, 11, 12:
		w.host.Tick()
		return
	default:
		r.Kind = wire.Put
	}
	w.ask(r)
}

func labelOf(c *rand.Rand) string {
	return []string{"l", "m", "n", strings.Repeat("long", 8)}[c.Intn(4)]
}

// What hosts answer, whatever was done to them, is taken, and shows what is so (P28.2; P7).
func TestHonestHosts(t *testing.T) {
	t.Parallel()
	taken := map[string]int{}
	for round := range 6 {
		c := rand.New(rand.NewSource(int64(round)))
		w := newWorld(t, round)
		w.taken = taken
		for range 120 {
			w.change(c)
			id := string(rune('a' + c.Intn(6)))
			w.look(id, labelOf(c), c.Intn(6)-1)
			w.stand(id)
			w.grow(c.Intn(9)-1, c.Intn(20))
		}
		for _, id := range []string{"a", "b", "c", "d", "e", "f"} {
			w.stand(id)
			for _, label := range []string{"l", "m", "never"} {
				for at := -1; at < 6; at++ {
					w.look(id, label, at)
				}
			}
		}
		for to := range w.host.Parts().Signed {
			for from := range to + 2 {
				w.grow(from, to+1)
			}
		}
	}
	for _, what := range []string{
		"look, present false, kept false, later false", "look, present false, kept false, later true", "look, present true, kept false, later false",
		"look, present true, kept false, later true", "look, present true, kept true, later false", "look, present true, kept true, later true",
		"stand, gone false", "stand, gone true", "growth",
	} {
		if taken[what] == 0 {
			t.Errorf("%s never came about", what)
		}
	}
}

// An answer of which any byte is another one is refused, or shows the same (P28.1; P7).
func TestEachByte(t *testing.T) {
	t.Parallel()
	w := newWorld(t, 1)
	id, label := []byte("a"), []byte("l")
	w.ask(wire.Request{Kind: wire.Create, Id: id, Limits: direct.Limits{Labels: 5, Pending: 5, Epochs: 12}, Period: 1})
	for _, other := range []string{"b", "c"} {
		w.ask(wire.Request{Kind: wire.Create, Id: []byte(other), Limits: direct.Limits{Labels: 1, Pending: 1, Epochs: 1}, Period: 1})
	}
	for i := range 4 {
		w.ask(wire.Request{Kind: wire.Put, Id: id, Label: []byte{'l' + byte(i)}, Value: []byte("value")})
		w.host.Tick()
	}
	asked := []wire.Request{
		{Kind: wire.Lookup, Id: id, Label: label, From: 2}, {Kind: wire.Lookup, Id: id, Label: label, From: 0}, {Kind: wire.Standing, Id: id},
	}
	for _, r := range asked {
		b, _ := wire.Tell(w.host.Serve(r))
		tell := func() (verify.Seen, api.Errno) {
			a, err := wire.Told(b)
			switch {
			case err != api.OK:
				return verify.Seen{}, err
			case r.Kind == wire.Standing:
				return verify.Stand(w.host.Public(), id, a)
			}
			return verify.Look(w.host.Public(), id, label, a)
		}
		want, err := tell()
		if err != api.OK {
			t.Fatal(err)
		}
		for i := range b {
			b[i] ^= 1 << (i % 8)
			if got, err := tell(); err == api.OK && said(got) != said(want) || err != api.OK && said(got) != said(verify.Seen{}) {
				t.Errorf("kind %d, byte %d: %v, %s", r.Kind, i, err, said(got))
			}
			b[i] ^= 1 << (i % 8)
		}
	}
}
