package host_test

import (
	"cmp"
	"crypto/ed25519"
	"crypto/sha256"
	"encoding/binary"
	"fmt"
	"math"
	"slices"
	"testing"

	"custumal/api"
	"custumal/bundle"
	"custumal/direct"
	"custumal/host"
	"custumal/proof"
	"custumal/rfclog"
	"custumal/super"
	"custumal/tenant"
	"custumal/tree"
	"custumal/wire"
)

// An account is a host told of apart: who came, in that order, and what became of each; what was signed; and who stands under the last root. It has directories and bundles of its own; all else is worked out here.
type account struct {
	seed   [32]byte
	places int
	now    int
	all    []*guest
	signed []super.Signed
	under  []super.Member
}

// A guest was let in once; looks are the names of those kept, the last one used first.
type guest struct {
	id                        string
	state, place, period, age int
	directory                 *direct.Directory
	public                    bool
	looks                     []string
}

func (g *guest) seated() bool { return g.state == tenant.Live || g.state == tenant.Held }

func newAccount(seed [32]byte, places, now int) *account {
	a := &account{seed: seed, places: places, now: now}
	a.seal()
	return a
}

func (a *account) find(id []byte) *guest {
	for _, g := range a.all {
		if g.id == string(id) {
			return g
		}
	}
	return nil
}

// seal: a super-epoch more.
func (a *account) seal() {
	a.under = nil
	for _, g := range a.all {
		m := super.Member{Id: []byte(g.id), Gone: g.state == tenant.Gone}
		if g.seated() {
			g.public = true
			m.Epoch = g.directory.Epoch()
			m.Link = link(g.directory, m.Epoch)
		}
		a.under = append(a.under, m)
	}
	s := super.Signed{Epoch: len(a.signed), Root: a.tree().Root()}
	copy(s.Sig[:], ed25519.Sign(ed25519.NewKeyFromSeed(a.seed[:]), rootText(s)))
	a.signed = append(a.signed, s)
}

func link(d *direct.Directory, epoch int) [32]byte {
	marks, _ := d.Audit(epoch, epoch)
	return marks[0].Link
}

func rootText(s super.Signed) []byte {
	return append(binary.BigEndian.AppendUint64([]byte{8}, uint64(s.Epoch)), s.Root[:]...)
}

// tree: of those who stand under the last root.
func (a *account) tree() *tree.Tree {
	var leaves []tree.Leaf
	for _, m := range a.under {
		value := []byte{7}
		if !m.Gone {
			value = append(binary.BigEndian.AppendUint64([]byte{6}, uint64(m.Epoch)), m.Link[:]...)
		}
		leaves = append(leaves, tree.Leaf{Key: sha256.Sum256(append([]byte{5}, m.Id...)), Value: sha256.Sum256(value)})
	}
	return tree.Of(leaves)
}

func (a *account) log() *rfclog.Log {
	l := &rfclog.Log{}
	for _, s := range a.signed {
		l.Add(rootText(s))
	}
	return l
}

func (a *account) shown(id []byte) (u wire.Under) {
	n := len(a.signed)
	u.Proof = proof.Prove(a.tree(), sha256.Sum256(append([]byte{5}, id...)))
	u.Signed = a.signed[n-1]
	u.Log, _ = a.log().Root(n)
	u.Sums, _ = a.log().Inclusion(n-1, n)
	return u
}

func (a *account) tick() api.Errno {
	if a.now == math.MaxInt {
		return api.ErrClock
	}
	a.now++
	for _, g := range a.all {
		if g.seated() && g.age < math.MaxInt {
			g.age++
		}
		if g.state == tenant.Live && g.age%g.period == 0 {
			g.directory.Seal()
		}
	}
	a.seal()
	return api.OK
}

// enter: at the least place that is nobody's, if it may.
func (a *account) enter(id string, d *direct.Directory, period, age, state int) api.Errno {
	if g := a.find([]byte(id)); g != nil {
		if g.state == tenant.Gone {
			return api.ErrGone
		}
		return api.ErrThere
	}
	for place := range a.places {
		if !slices.ContainsFunc(a.all, func(g *guest) bool { return g.seated() && g.place == place }) {
			a.all = append(a.all, &guest{id: id, state: state, place: place, period: period, age: age, directory: d})
			return api.OK
		}
	}
	return api.ErrFull
}

// turn: from the one state to the other.
func (a *account) turn(id []byte, from, to int) api.Errno {
	g, err := a.get(id, true)
	if err == api.OK && g.state != from {
		err = api.ErrHeld
	}
	if err == api.OK {
		g.state = to
	}
	return err
}

func (a *account) get(id []byte, held bool) (*guest, api.Errno) {
	g := a.find(id)
	switch {
	case g == nil:
		return nil, api.ErrMiss
	case g.state == tenant.Gone:
		return nil, api.ErrGone
	case g.state == tenant.Held && !held:
		return nil, api.ErrHeld
	}
	return g, api.OK
}

// serve: what the chapter's table says of each kind, line by line.
func (a *account) serve(r wire.Request) wire.Answer {
	var made wire.Answer
	var err api.Errno
	switch r.Kind {
	case wire.Create:
		var d *direct.Directory
		if err = api.ErrArg; r.Period >= 1 && r.Period <= 1000 {
			d, err = direct.New(r.Id, r.Keys, r.Limits)
		}
		if err == api.OK {
			err = a.enter(string(r.Id), d, r.Period, 0, tenant.Live)
		}
	case wire.Hold:
		err = a.turn(r.Id, tenant.Live, tenant.Held)
	case wire.Free:
		err = a.turn(r.Id, tenant.Held, tenant.Live)
	case wire.Delete:
		var g *guest
		if g, err = a.get(r.Id, true); err == api.OK {
			*g = guest{id: g.id, state: tenant.Gone}
		}
	case wire.Put:
		var g *guest
		if g, err = a.get(r.Id, false); err == api.OK {
			err = g.directory.Put(r.Label, r.Value)
		}
	case wire.Lookup, wire.History, wire.Audit, wire.Export:
		made, err = a.read(r)
	case wire.Import:
		p, other := bundle.Unpack(r.Bundle)
		if err = other; err == api.OK {
			state := map[bool]int{false: tenant.Live, true: tenant.Held}[p.Held]
			made.Epoch = p.Directory.Epoch()
			err = a.enter(string(p.Directory.Id()), p.Directory, p.Period, p.Age, state)
		}
	case wire.Standing:
		if err = api.ErrMiss; len(r.Id) == 0 || len(r.Id) > 16 {
			err = api.ErrArg
		}
		for _, m := range a.under {
			if string(m.Id) == string(r.Id) {
				made.Member, made.Under, err = m, a.shown(r.Id), api.OK
			}
		}
	case wire.Growth:
		if made.Sums, err = a.log().Consistency(r.From, r.To); err == api.OK {
			made.Log, _ = a.log().Root(r.To)
		}
	default:
		return wire.Answer{Err: api.ErrForm}
	}
	if err != api.OK {
		made = wire.Answer{Err: err}
	}
	made.Kind = r.Kind
	return made
}

func (a *account) read(r wire.Request) (made wire.Answer, err api.Errno) {
	g, err := a.get(r.Id, true)
	if err != api.OK {
		return made, err
	}
	switch r.Kind {
	case wire.History:
		made.Entries, err = g.directory.History(r.Label)
	case wire.Audit:
		made.Marks, err = g.directory.Audit(r.From, r.To)
	case wire.Export:
		made.Bundle, err = bundle.Pack(bundle.Parcel{Directory: g.directory, Period: g.period, Age: g.age, Held: g.state == tenant.Held})
	case wire.Lookup:
		if !g.public {
			return made, api.ErrMiss
		}
		if made.Found, err = g.directory.Lookup(r.Label, r.From); err != api.OK {
			return made, err
		}
		if g.looked(fmt.Sprintf("%x at %d", r.Label, made.Found.Epoch)) {
			made.Found.Reads = 0
		}
		made.Public = g.directory.Public()
		marks, _ := g.directory.Audit(made.Found.Epoch, g.directory.Epoch())
		for _, m := range marks[1:] {
			made.Later = append(made.Later, m.Root)
		}
		made.Under = a.shown(r.Id)
	}
	return made, err
}

// looked: was it kept? It is now, and the last of four is forgotten.
func (g *guest) looked(name string) (kept bool) {
	if at := slices.Index(g.looks, name); at >= 0 {
		g.looks, kept = slices.Delete(g.looks, at, at+1), true
	}
	g.looks = slices.Insert(g.looks, 0, name)
	g.looks = g.looks[:min(4, len(g.looks))]
	return kept
}

// parts: as a host's; the directories are the account's own.
func (a *account) parts() host.Parts {
	p := host.Parts{Now: a.now, Signed: a.signed}
	sorted := slices.Clone(a.all)
	slices.SortFunc(sorted, func(g, other *guest) int {
		return cmp.Or(cmp.Compare(g.state, other.state), cmp.Compare(g.id, other.id))
	})
	for _, g := range sorted {
		p.Tenants = append(p.Tenants, host.Part{
			Id: []byte(g.id), State: g.state, Place: g.place, Period: g.period, Age: g.age, Directory: g.directory, Public: g.public,
		})
		for _, m := range a.under {
			if string(m.Id) == g.id {
				p.Members = append(p.Members, m)
			}
		}
	}
	return p
}

// said: as text, in which nil and empty lists are one.
func said(parts ...any) string { return fmt.Sprintf("%+x", parts) }

// partsText: of parts, with each directory as the bytes of its bundle.
func partsText(p host.Parts) string {
	var all []any
	for _, t := range p.Tenants {
		b, err := bundle.Pack(bundle.Parcel{Directory: t.Directory, Period: 1})
		t.Directory = nil
		all = append(all, t, b, err)
	}
	return said(p.Now, all, p.Signed, p.Members)
}

// A pair is a host and the account of it.
type pair struct {
	t       *testing.T
	host    *host.Host
	account *account
}

var seed = [32]byte{1, 2, 3, 31: 4}

func open(t *testing.T, places, now int) *pair {
	t.Helper()
	h, err := host.New(seed, places, now)
	if err != api.OK || h == nil {
		t.Fatalf("New(%d, %d): %v", places, now, err)
	}
	return &pair{t, h, newAccount(seed, places, now)}
}

// serve: what both answer has to be the same; what is refused changes nothing (P26.1, P26.2).
func (p *pair) serve(r wire.Request) wire.Answer {
	p.t.Helper()
	ahead := p.host.State()
	got, want := p.host.Serve(r), p.account.serve(r)
	if said(got) != said(want) {
		p.t.Fatalf("%+x:\n%.900s\nnot\n%.900s", r, said(got), said(want))
	}
	if behind := p.host.State(); got.Err != api.OK && string(behind) != string(ahead) {
		p.t.Fatalf("%+x: refused by %d, but State is another one", r, got.Err)
	}
	return got
}

// must: a request that has this error.
func (p *pair) must(want api.Errno, r wire.Request) wire.Answer {
	p.t.Helper()
	a := p.serve(r)
	if a.Err != want || a.Kind != r.Kind {
		p.t.Errorf("%+x: error %d of kind %d, not %d", r, a.Err, a.Kind, want)
	}
	return a
}

func (p *pair) tick() api.Errno {
	p.t.Helper()
	ahead := p.host.State()
	got, want := p.host.Tick(), p.account.tick()
	if got != want {
		p.t.Fatalf("Tick: %v, not %v", got, want)
	}
	if behind := p.host.State(); (got == api.OK) == (string(behind) == string(ahead)) {
		p.t.Fatalf("Tick: %v, is State the same: %v", got, string(behind) == string(ahead))
	}
	p.expectParts()
	return got
}

func (p *pair) ticks(count int) {
	p.t.Helper()
	for range count {
		if err := p.tick(); err != api.OK {
			p.t.Fatal(err)
		}
	}
}

// expectParts: all of which the host is made is as the account has it.
func (p *pair) expectParts() {
	p.t.Helper()
	if got, want := partsText(p.host.Parts()), partsText(p.account.parts()); got != want {
		p.t.Fatalf("Parts:\n%.900s\nnot\n%.900s", got, want)
	}
	for _, g := range p.account.all {
		at, err := p.host.Place([]byte(g.id))
		if g.seated() && (at != g.place || err != api.OK) || !g.seated() && (at != 0 || err != api.ErrGone) {
			p.t.Errorf("Place of %q: %d, %v", g.id, at, err)
		}
	}
}

// rebuild: the host is another one of the same parts; its cache is empty.
func (p *pair) rebuild() {
	p.t.Helper()
	again, err := host.Rebuild(p.account.seed, p.account.places, p.host.Parts())
	if err != api.OK || again == nil {
		p.t.Fatalf("Rebuild: %v", err)
	}
	if string(again.State()) != string(p.host.State()) {
		p.t.Fatal("rebuilt, State is another one")
	}
	p.host = again
	for _, g := range p.account.all {
		g.looks = nil
	}
	p.expectParts()
}

// What requests are made of.

var wide = direct.Limits{Labels: 64, Pending: 16, Epochs: 32}

func keysOf(n byte) direct.Keys { return direct.Keys{Vrf: [32]byte{n, 1}, Bind: [32]byte{n, 2}} }

func create(id string, period int, l direct.Limits) wire.Request {
	return wire.Request{Kind: wire.Create, Id: []byte(id), Keys: keysOf(byte(len(id))), Limits: l, Period: period}
}

func of(kind int, id string) wire.Request { return wire.Request{Kind: kind, Id: []byte(id)} }

func put(id, label, value string) wire.Request {
	return wire.Request{Kind: wire.Put, Id: []byte(id), Label: []byte(label), Value: []byte(value)}
}

func look(id, label string, epoch int) wire.Request {
	return wire.Request{Kind: wire.Lookup, Id: []byte(id), Label: []byte(label), From: epoch}
}

func history(id, label string) wire.Request {
	return wire.Request{Kind: wire.History, Id: []byte(id), Label: []byte(label)}
}

func audit(id string, from, to int) wire.Request {
	return wire.Request{Kind: wire.Audit, Id: []byte(id), From: from, To: to}
}

func bring(b []byte) wire.Request { return wire.Request{Kind: wire.Import, Bundle: b} }

func growth(from, to int) wire.Request {
	return wire.Request{Kind: wire.Growth, From: from, To: to}
}
