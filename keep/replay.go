package keep

import (
	"slices"

	"custumal/api"
	"custumal/bundle"
	"custumal/direct"
	"custumal/disk"
	"custumal/extent"
	"custumal/host"
	"custumal/journal"
	"custumal/super"
	"custumal/tenant"
	"custumal/wire"
)

// told is what stands in the journals.
type told struct {
	common [][]byte
	own    [][][]byte // the tenants', by place
}

// read: a store of what stands on the disk, without its host.
func read(d *disk.Disk, c Config) (*Store, told, api.Errno) {
	common, recs, err := journal.Open(d, 0, c.Common)
	if err != api.OK {
		return nil, told{}, err
	}
	extents, err := extent.New(d, c.Common, c.Places, c.Each)
	if err != api.OK {
		return nil, told{}, err
	}
	s, t := &Store{disk: d, common: common, extents: extents}, told{common: recs}
	for at := range c.Places {
		own, recs, err := s.open(at)
		if err != api.OK {
			return nil, told{}, err
		}
		s.own, t.own = append(s.own, own), append(t.own, recs)
	}
	return s, t, api.OK
}

// open: the journal at a place, and its records.
func (s *Store) open(at int) (*journal.Journal, [][]byte, api.Errno) {
	first, size, _ := s.extents.Area(at)
	return journal.Open(s.disk, first, size)
}

// sweep: what a crash left where nobody is goes, so that no new tenant finds it: of places, and of a common journal without a record.
func (s *Store) sweep(common int, ids []string) api.Errno {
	foul, err := s.extents.Foul()
	if err != api.OK {
		return err
	}
	for _, at := range foul {
		if ids[at] != "" {
			continue
		}
		if err := s.clear(at); err != api.OK {
			return err
		}
	}
	if s.common.Len() > 0 {
		return api.OK
	}
	return wipe(s.disk, common)
}

// replay is a host to which is done what the records tell, one after the other. Of one who is deleted by a later record the puts aren't there any more: an empty directory stands for its own, and nothing that hangs on that one is believed.
type replay struct {
	host    *host.Host
	own     [][][]byte
	ids     []string          // by place; of nobody empty
	deleted map[string]record // by ids
	ticks   []tick
}

// tick is a record's, and whether the host knew all members then.
type tick struct {
	signed super.Signed
	sure   bool
}

// replayed: the host behind all records, and who has which place; false: they make none.
func replayed(c Config, t told) (h *host.Host, ids []string, right bool) {
	p := &replay{own: t.own, ids: make([]string, c.Places), deleted: map[string]record{}}
	var all []record
	for _, b := range t.common {
		r, right := recordOf(b)
		if !right {
			return nil, nil, false
		}
		if r.kind == isDelete {
			p.deleted[string(r.id)] = r
		}
		all = append(all, r)
	}
	p.host, _ = host.New(c.Seed, c.Places, c.Now)
	for _, r := range all {
		if !p.do(r) {
			return nil, nil, false
		}
	}
	h, right = p.end(c)
	return h, p.ids, right
}

func (p *replay) do(r record) bool {
	switch r.kind {
	case isTick:
		p.ticks = append(p.ticks, tick{r.signed, !slices.ContainsFunc(p.ids, p.isDeleted)})
		return p.host.Tick() == api.OK
	case isAsked:
		return p.ask(r.request)
	case isPut:
		return p.put(r)
	case isDelete:
		return p.remove(r)
	default:
		return p.bring(r)
	}
}

func (p *replay) isDeleted(id string) bool {
	_, there := p.deleted[id]
	return there
}

func (p *replay) serve(r wire.Request) bool { return p.host.Serve(r).Err == api.OK }

// ask: a Create, a Hold, a Free.
func (p *replay) ask(b []byte) bool {
	r, _ := wire.Asked(b)
	if !p.serve(r) {
		return false
	}
	at, _ := p.host.Place(r.Id)
	p.ids[at] = string(r.Id)
	return true
}

func (p *replay) put(r record) bool {
	if r.place >= len(p.ids) {
		return false
	}
	id := p.ids[r.place]
	if p.isDeleted(id) {
		return true
	}
	asked, there := p.asked(r, wire.Put)
	return there && string(asked.Id) == id && p.serve(asked)
}

// asked: the request of that kind whose bytes are where a record says.
func (p *replay) asked(r record, kind int) (asked wire.Request, there bool) {
	if r.place >= len(p.own) || r.number < 0 || r.number >= len(p.own[r.place]) {
		return asked, false
	}
	asked, err := wire.Asked(p.own[r.place][r.number])
	return asked, err == api.OK && asked.Kind == kind
}

func (p *replay) remove(r record) bool {
	stood := p.host.Serve(wire.Request{Kind: wire.Standing, Id: r.id})
	at, _ := p.host.Place(r.id)
	if r.member != (stood.Err == api.OK) || !p.serve(wire.Request{Kind: wire.Delete, Id: r.id}) {
		return false
	}
	p.ids[at] = ""
	return true
}

func (p *replay) bring(r record) bool {
	var asked wire.Request
	var there bool
	if p.isDeleted(string(r.id)) {
		asked, there = standIn(r)
	} else {
		asked, there = p.asked(r, wire.Import)
	}
	if !there || !p.serve(asked) || !p.stands(r) {
		return false
	}
	p.ids[r.place] = string(r.id)
	return true
}

// standIn: the import of one of whom there is no more than the record.
func standIn(r record) (wire.Request, bool) {
	d, _ := direct.New(r.id, direct.Keys{}, direct.Limits{Labels: 1, Pending: 1, Epochs: 1})
	b, err := bundle.Pack(bundle.Parcel{Directory: d, Period: r.period, Age: r.age, Held: r.held})
	return wire.Request{Kind: wire.Import, Bundle: b}, err == api.OK
}

// stands: is the tenant that was brought as the record tells it?
func (p *replay) stands(r record) bool {
	return slices.ContainsFunc(p.host.Parts().Tenants, func(t host.Part) bool {
		same := string(t.Id) == string(r.id) && t.Place == r.place && t.Period == r.period && t.Age == r.age
		return same && (t.State == tenant.Held) == r.held
	})
}

// end: the host with the super-roots that were told, and the members that were there; false: they aren't its own.
func (p *replay) end(c Config) (*host.Host, bool) {
	all := p.host.Parts()
	for i, t := range p.ticks {
		s := &all.Signed[i+1] // the one that is there at first has no record
		if t.sure && s.Root != t.signed.Root {
			return nil, false
		}
		s.Root, s.Sig = t.signed.Root, t.signed.Sig
	}
	for i := range all.Members {
		m := &all.Members[i]
		if r, there := p.deleted[string(m.Id)]; there && !m.Gone {
			m.Epoch, m.Link = r.epoch, r.link
		}
	}
	h, err := host.Rebuild(c.Seed, c.Places, all)
	return h, err == api.OK
}
