package world_test

import (
	"fmt"
	"math/rand"
	"strings"
	"testing"

	"custumal/api"
	"custumal/bundle"
	"custumal/direct"
	"custumal/disk"
	"custumal/host"
	"custumal/keep"
	"custumal/wire"
	"custumal/world"
)

// Events.

var tick = world.Event{Kind: world.Tick}

func arm(n int) world.Event { return world.Event{Kind: world.Arm, N: n} }

func crash(keeps ...bool) world.Event { return world.Event{Kind: world.Crash, Keep: keeps} }

func bytes(b []byte) world.Event { return world.Event{Kind: world.Ask, Bytes: b} }

func ask(r wire.Request) world.Event {
	b, err := wire.Ask(r)
	if err != api.OK {
		panic(err)
	}
	return bytes(b)
}

var wide = direct.Limits{Labels: 64, Pending: 16, Epochs: 32}

func create(id string, period int) world.Event {
	k := direct.Keys{Vrf: [32]byte{id[0], 1}, Bind: [32]byte{id[0], 2}}
	return ask(wire.Request{Kind: wire.Create, Id: []byte(id), Keys: k, Limits: wide, Period: period})
}

func of(kind int, id string) world.Event { return ask(wire.Request{Kind: kind, Id: []byte(id)}) }

func put(id, label, value string) world.Event {
	return ask(wire.Request{Kind: wire.Put, Id: []byte(id), Label: []byte(label), Value: []byte(value)})
}

func look(id, label string, at int) world.Event {
	return ask(wire.Request{Kind: wire.Lookup, Id: []byte(id), Label: []byte(label), From: at})
}

// brought: the import of a tenant of some epochs.
func brought(id string, epochs, period int, held bool) world.Event {
	d, err := direct.New([]byte(id), direct.Keys{Vrf: [32]byte{id[0]}}, wide)
	if err != api.OK {
		panic(err)
	}
	for n := range epochs {
		d.Put([]byte{'l' + byte(n%3)}, []byte(id))
		d.Seal()
	}
	b, err := bundle.Pack(bundle.Parcel{Directory: d, Period: period, Age: epochs, Held: held})
	if err != api.OK {
		panic(err)
	}
	return ask(wire.Request{Kind: wire.Import, Bundle: b})
}

// chance makes scripts.
type chance struct{ *rand.Rand }

func one[T any](c chance, l ...T) T { return l[c.Intn(len(l))] }

func (c chance) label() string { return one(c, "l", "m", "n", strings.Repeat("l", 32)) }

// request: of one of these tenants.
func (c chance) request(ids ...string) world.Event {
	id := one(c, ids...)
	switch c.Intn(26) {
	case 0, 1, 2:
		return create(id, 1+c.Intn(3))
	case 3:
		return of(wire.Hold, id)
	case 4, 5:
		return of(wire.Free, id)
	case 6:
		if c.Intn(3) == 0 {
			return of(wire.Delete, id)
		}
		return of(wire.Export, id)
	case 7:
		return brought(id, c.Intn(4), 1+c.Intn(2), c.Intn(3) == 0)
	case 8:
		return ask(wire.Request{Kind: wire.History, Id: []byte(id), Label: []byte(c.label())})
	case 9:
		return ask(wire.Request{Kind: wire.Audit, Id: []byte(id), From: c.Intn(3), To: c.Intn(5)})
	case 10:
		return ask(wire.Request{Kind: wire.Growth, From: c.Intn(3), To: c.Intn(9)})
	case 11:
		return bytes(one(c, nil, []byte{0}, []byte{wire.Put, 0}, []byte{wire.Lookup, 0, 1, 'a'}))
	case 12, 13, 14:
		return of(wire.Standing, id)
	case 15, 16, 17, 18, 19:
		return look(id, c.label(), c.Intn(5)-1)
	}
	return put(id, c.label(), strings.Repeat("v", c.Intn(65)))
}

func (c chance) keeps() (l []bool) {
	for range c.Intn(6) {
		l = append(l, c.Intn(2) > 0)
	}
	return l
}

// account is what a script comes to, told by a store that is led step by step.
type account struct {
	t     *testing.T
	c     keep.Config
	disk  *disk.Disk
	store *keep.Store
	want  world.Report
}

func newAccount(t *testing.T, c keep.Config) *account {
	t.Helper()
	d, err := disk.New(keep.Blocks(c))
	if err != api.OK {
		t.Fatal(err)
	}
	s, err := keep.Format(d, c)
	if err != api.OK {
		t.Fatal(err)
	}
	return &account{t: t, c: c, disk: d, store: s}
}

func (a *account) reopen(keeps []bool) {
	a.t.Helper()
	a.disk.Crash(keeps)
	s, err := keep.Open(a.disk, a.c)
	if err != api.OK {
		a.t.Fatalf("Open: %v", err)
	}
	a.store = s
}

// shows: is it an answer that a client checks?
func shows(b []byte) bool {
	a, err := wire.Told(b)
	return err == api.OK && a.Err == api.OK && (a.Kind == wire.Lookup || a.Kind == wire.Standing)
}

func (a *account) do(e world.Event) {
	a.t.Helper()
	var answer []byte
	switch e.Kind {
	case world.Ask:
		if answer = a.store.Do(e.Bytes); shows(answer) {
			a.want.Taken++
		}
	case world.Tick:
		answer = []byte{byte(a.store.Tick())}
	case world.Arm:
		a.disk.Arm(e.N)
	case world.Crash:
		a.want.Crashes++
		a.reopen(e.Keep)
	}
	a.want.Answers = append(a.want.Answers, answer)
}

// end: what is to be reported behind all events.
func (a *account) end() world.Report {
	a.t.Helper()
	if a.disk.Down() {
		a.reopen(nil)
	}
	a.want.State = a.store.Host().State()
	return a.want
}

// plain is what a script comes to where the power doesn't go off: told by a host without a store, rebuilt of its parts at each crash.
type plain struct {
	t    *testing.T
	c    keep.Config
	host *host.Host
	want world.Report
}

func newPlain(t *testing.T, c keep.Config) *plain {
	t.Helper()
	h, err := host.New(c.Seed, c.Places, c.Now)
	if err != api.OK {
		t.Fatal(err)
	}
	return &plain{t: t, c: c, host: h}
}

func (p *plain) do(e world.Event) {
	p.t.Helper()
	var answer []byte
	switch e.Kind {
	case world.Ask:
		if answer = p.host.Do(e.Bytes); shows(answer) {
			p.want.Taken++
		}
	case world.Tick:
		answer = []byte{byte(p.host.Tick())}
	case world.Crash:
		h, err := host.Rebuild(p.c.Seed, p.c.Places, p.host.Parts())
		if err != api.OK {
			p.t.Fatal(err)
		}
		p.host = h
		p.want.Crashes++
	}
	p.want.Answers = append(p.want.Answers, answer)
}

func (p *plain) end() world.Report {
	p.want.State = p.host.State()
	return p.want
}

// said: as text, in which nil and empty lists are one.
func said(parts ...any) string { return fmt.Sprintf("%+x", parts) }

// expect: what a script comes to, answer by answer.
func expect(t *testing.T, why string, c keep.Config, l []world.Event, want world.Report) {
	t.Helper()
	got, err := world.Run(c, l)
	if err != api.OK || len(got.Answers) != len(want.Answers) {
		t.Fatalf("%s: %v; %d answers, not %d", why, err, len(got.Answers), len(want.Answers))
	}
	for i, b := range want.Answers {
		if string(got.Answers[i]) != string(b) {
			t.Fatalf("%s: answer %d: %.400x\nnot\n%.400x", why, i, got.Answers[i], b)
		}
	}
	if string(got.State) != string(want.State) {
		t.Fatalf("%s: another State", why)
	}
	got.Answers, got.State, want.Answers, want.State = nil, nil, nil, nil
	if said(got) != said(want) {
		t.Fatalf("%s: %+v, not %+v", why, got, want)
	}
}
