package keep_test

import (
	"encoding/binary"
	"fmt"
	"slices"
	"testing"

	"custumal/api"
	"custumal/bundle"
	"custumal/direct"
	"custumal/disk"
	"custumal/host"
	"custumal/journal"
	"custumal/keep"
	"custumal/tenant"
	"custumal/wire"
)

// An account is what a store is to have: a plain host, and the records of all journals, put together apart.
type account struct {
	c      keep.Config
	host   *host.Host
	common [][]byte
	own    [][][]byte // by place
}

func newAccount(t *testing.T, c keep.Config) *account {
	t.Helper()
	h, err := host.New(c.Seed, c.Places, c.Now)
	if err != api.OK {
		t.Fatal(err)
	}
	return &account{c: c, host: h, own: make([][][]byte, c.Places)}
}

func num(n int) []byte { return binary.BigEndian.AppendUint64(nil, uint64(n)) }

func text(b []byte) []byte { return append(binary.BigEndian.AppendUint16(nil, uint16(len(b))), b...) }

func flag(yes bool) []byte {
	if yes {
		return []byte{1}
	}
	return []byte{0}
}

// The records of the common journal, as the chapter tells them.

func tickRecord(root [32]byte, sig []byte) []byte {
	return slices.Concat([]byte{1}, root[:], text(sig))
}

func askedRecord(b []byte) []byte { return slices.Concat([]byte{2}, b) }

func putRecord(place, number int) []byte { return slices.Concat([]byte{3, byte(place)}, num(number)) }

func deleteRecord(id string, member bool, epoch int, link [32]byte) []byte {
	b := slices.Concat([]byte{4}, text([]byte(id)), flag(member))
	if member {
		b = slices.Concat(b, num(epoch), link[:])
	}
	return b
}

func importRecord(id string, place, number, period, age int, held bool) []byte {
	return slices.Concat([]byte{5}, text([]byte(id)), []byte{byte(place)}, num(number), num(period), num(age), flag(held))
}

func blocksFor(recs [][]byte) (count int) {
	for _, rec := range recs {
		count += max(1, (len(rec)+116)/117)
	}
	return count
}

// fits: is there room for so many bytes more?
func fits(recs [][]byte, b []byte, blocks int) bool {
	return len(b) <= 65535 && blocksFor(recs)+blocksFor([][]byte{b}) <= blocks
}

func told(a wire.Answer) []byte {
	b, err := wire.Tell(a)
	if err != api.OK {
		panic(err)
	}
	return b
}

// full: what is said of that ahead of the host's answer.
func (a *account) full(r wire.Request, b []byte) bool {
	if len(a.common) == a.c.Common {
		return true
	}
	switch r.Kind {
	case wire.Put:
		at, err := a.host.Place(r.Id)
		return err == api.OK && !fits(a.own[at], b, a.c.Each)
	case wire.Import:
		return !fits(nil, b, a.c.Each)
	}
	return false
}

// do: what the chapter says of each kind, line by line.
func (a *account) do(b []byte) []byte {
	r, err := wire.Asked(b)
	changes := slices.Contains([]int{wire.Create, wire.Hold, wire.Free, wire.Delete, wire.Put, wire.Import}, r.Kind)
	if err != api.OK || !changes {
		return a.host.Do(b)
	}
	if a.full(r, b) {
		return told(wire.Answer{Kind: r.Kind, Err: api.ErrFull})
	}
	ahead := a.host.Parts()
	answer := a.host.Do(b)
	if made, err := wire.Told(answer); err != api.OK || made.Err != api.OK {
		return answer
	}
	switch r.Kind {
	case wire.Put:
		at, _ := a.host.Place(r.Id)
		a.common = append(a.common, putRecord(at, len(a.own[at])))
		a.own[at] = append(a.own[at], b)
	case wire.Import:
		p := newcomer(ahead, a.host.Parts())
		a.common = append(a.common, importRecord(string(p.Id), p.Place, len(a.own[p.Place]), p.Period, p.Age, p.State == tenant.Held))
		a.own[p.Place] = append(a.own[p.Place], b)
	case wire.Delete:
		rec := deleteRecord(string(r.Id), false, 0, [32]byte{})
		for _, m := range ahead.Members {
			if string(m.Id) == string(r.Id) {
				rec = deleteRecord(string(r.Id), true, m.Epoch, m.Link)
			}
		}
		for _, p := range ahead.Tenants {
			if string(p.Id) == string(r.Id) {
				a.own[p.Place] = nil
			}
		}
		a.common = append(a.common, rec)
	default:
		a.common = append(a.common, askedRecord(b))
	}
	return answer
}

// newcomer: who wasn't there ahead.
func newcomer(ahead, behind host.Parts) host.Part {
	for _, p := range behind.Tenants {
		if !slices.ContainsFunc(ahead.Tenants, func(old host.Part) bool { return string(old.Id) == string(p.Id) }) {
			return p
		}
	}
	panic("nobody came")
}

func (a *account) tick() api.Errno {
	if len(a.common) == a.c.Common {
		return api.ErrFull
	}
	if err := a.host.Tick(); err != api.OK {
		return err
	}
	all := a.host.Parts().Signed
	last := all[len(all)-1]
	a.common = append(a.common, tickRecord(last.Root, last.Sig[:]))
	return api.OK
}

// reopen: of the same State, with an empty cache.
func (a *account) reopen(t *testing.T) {
	t.Helper()
	h, err := host.Rebuild(a.c.Seed, a.c.Places, a.host.Parts())
	if err != api.OK {
		t.Fatal(err)
	}
	a.host = h
}

// laid: the blocks of records, one behind the other, and noughts, as layer 11's chapter says.
func laid(recs [][]byte, size int) []disk.Block {
	all := make([]disk.Block, 0, size)
	for i, rec := range recs {
		start := binary.BigEndian.AppendUint16(append([]byte{1}, num(i)...), uint16(len(rec)))
		for {
			var b disk.Block
			n := min(len(rec), 117)
			copy(b[:], slices.Concat(start, rec[:n]))
			all, rec = append(all, b), rec[n:]
			if len(rec) == 0 {
				break
			}
			start = append([]byte{2}, make([]byte, 10)...)
		}
	}
	return append(all, make([]disk.Block, size-len(all))...)
}

// image: all blocks.
func (a *account) image() []disk.Block { return imageOf(a.c, a.common, a.own) }

func imageOf(c keep.Config, common [][]byte, own [][][]byte) []disk.Block {
	all := laid(common, c.Common)
	for _, recs := range own {
		all = append(all, laid(recs, c.Each)...)
	}
	return all
}

// Disks.

func blocksOf(t *testing.T, d *disk.Disk) (all []disk.Block) {
	t.Helper()
	for i := range d.Size() {
		b, err := d.Read(i)
		if err != api.OK {
			t.Fatal(err)
		}
		all = append(all, b)
	}
	return all
}

// diskOf: one that has these blocks, and they last.
func diskOf(t *testing.T, all []disk.Block) *disk.Disk {
	t.Helper()
	d, err := disk.New(len(all))
	if err != api.OK {
		t.Fatal(err)
	}
	for i, b := range all {
		if b != (disk.Block{}) {
			d.Write(i, b)
		}
	}
	d.Sync()
	return d
}

// dirty: a disk of so many blocks, none of which is of noughts.
func dirty(t *testing.T, blocks int) *disk.Disk {
	t.Helper()
	all := make([]disk.Block, blocks)
	for i := range all {
		all[i] = disk.Block(slices.Repeat([]byte{byte(i%250 + 3)}, api.Block))
	}
	return diskOf(t, all)
}

func recordsAt(t *testing.T, d *disk.Disk, first, size int) [][]byte {
	t.Helper()
	_, recs, err := journal.Open(d, first, size)
	if err != api.OK {
		t.Fatal(err)
	}
	return recs
}

// said: as text, in which nil and empty lists are one.
func said(parts ...any) string { return fmt.Sprintf("%+x", parts) }

// A pair is a store and the account of it.
type pair struct {
	t       *testing.T
	disk    *disk.Disk
	store   *keep.Store
	account *account
	crashed bool // a crash may have left blocks that nobody asks for
}

// plain: a config of a few places.
func plain() keep.Config {
	return keep.Config{Seed: [32]byte{7, 31: 1}, Places: 3, Now: 4, Common: 60, Each: 20}
}

func formatted(t *testing.T, c keep.Config) *pair {
	t.Helper()
	d := dirty(t, keep.Blocks(c)+2)
	s, err := keep.Format(d, c)
	if err != api.OK || s == nil {
		t.Fatalf("Format: %v", err)
	}
	p := &pair{t: t, disk: d, store: s, account: newAccount(t, c)}
	p.expect()
	return p
}

// expect: the host, the room, and the disk are as the account has them (P27.1).
func (p *pair) expect() {
	p.t.Helper()
	if string(p.store.Host().State()) != string(p.account.host.State()) {
		p.t.Fatalf("State:\n%.900x\nnot\n%.900x", p.store.Host().State(), p.account.host.State())
	}
	if got, want := p.store.Room(), p.account.c.Common-len(p.account.common); got != want {
		p.t.Fatalf("Room %d, not %d", got, want)
	}
	if p.disk.Waiting() != 0 {
		p.t.Fatalf("%d writes don't last", p.disk.Waiting())
	}
	if p.crashed {
		return
	}
	got, want := blocksOf(p.t, p.disk), p.account.image()
	for i, b := range want {
		if got[i] != b {
			p.t.Fatalf("block %d:\n%x\nnot\n%x", i, got[i], b)
		}
	}
}

// do: what both answer has to be the same.
func (p *pair) do(r wire.Request) wire.Answer {
	p.t.Helper()
	b, err := wire.Ask(r)
	if err != api.OK {
		p.t.Fatalf("%+x: no bytes: %v", r, err)
	}
	got, want := p.store.Do(b), p.account.do(b)
	if string(got) != string(want) {
		p.t.Fatalf("%+x:\n%.900x\nnot\n%.900x", r, got, want)
	}
	p.expect()
	a, err := wire.Told(got)
	if err != api.OK {
		p.t.Fatal(err)
	}
	return a
}

// must: a request that has this error.
func (p *pair) must(want api.Errno, r wire.Request) wire.Answer {
	p.t.Helper()
	a := p.do(r)
	if a.Err != want || a.Kind != r.Kind {
		p.t.Fatalf("%+x: error %d of kind %d, not %d", r, a.Err, a.Kind, want)
	}
	return a
}

func (p *pair) tick(want api.Errno) {
	p.t.Helper()
	got, other := p.store.Tick(), p.account.tick()
	if got != other || got != want {
		p.t.Fatalf("Tick: %v, not %v, %v", got, other, want)
	}
	p.expect()
}

// reopen: all is there again.
func (p *pair) reopen() {
	p.t.Helper()
	s, err := keep.Open(p.disk, p.account.c)
	if err != api.OK || s == nil {
		p.t.Fatalf("Open: %v", err)
	}
	p.store = s
	p.account.reopen(p.t)
	p.expect()
}

// What requests are made of.

var wide = direct.Limits{Labels: 64, Pending: 16, Epochs: 32}

func create(id string, period int, l direct.Limits) wire.Request {
	k := direct.Keys{Vrf: [32]byte{byte(len(id)), 1}, Bind: [32]byte{byte(len(id)), 2}}
	return wire.Request{Kind: wire.Create, Id: []byte(id), Keys: k, Limits: l, Period: period}
}

func of(kind int, id string) wire.Request { return wire.Request{Kind: kind, Id: []byte(id)} }

func put(id, label, value string) wire.Request {
	return wire.Request{Kind: wire.Put, Id: []byte(id), Label: []byte(label), Value: []byte(value)}
}

func look(id, label string, epoch int) wire.Request {
	return wire.Request{Kind: wire.Lookup, Id: []byte(id), Label: []byte(label), From: epoch}
}

func bring(b []byte) wire.Request { return wire.Request{Kind: wire.Import, Bundle: b} }

func growth(from, to int) wire.Request {
	return wire.Request{Kind: wire.Growth, From: from, To: to}
}

// packed: the bundle of a tenant of some epochs, with a put in each, and one that waits.
func packed(id string, epochs, period, age int, held bool) []byte {
	d, err := direct.New([]byte(id), direct.Keys{Vrf: [32]byte{9}}, wide)
	if err != api.OK {
		panic(err)
	}
	for n := range epochs {
		d.Put([]byte{byte(n % 2)}, []byte(id))
		d.Seal()
	}
	d.Put([]byte("l"), []byte("waits"))
	b, err := bundle.Pack(bundle.Parcel{Directory: d, Period: period, Age: age, Held: held})
	if err != api.OK {
		panic(err)
	}
	return b
}
