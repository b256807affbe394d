package host

import (
	"custumal/api"
	"custumal/bundle"
	"custumal/cache"
	"custumal/cadence"
	"custumal/codec"
	"custumal/super"
	"custumal/tenant"
)

// bare: a host of nobody, without a Super.
func bare(seed [32]byte, places, now int) (*Host, api.Errno) {
	table, err := tenant.New(places)
	if err != api.OK {
		return nil, err
	}
	beat, err := cadence.New(now)
	if err != api.OK {
		return nil, err
	}
	lately, err := cache.New(places, kept)
	if err != api.OK {
		return nil, err
	}
	return &Host{seed: seed, table: table, beat: beat, lately: lately, seats: make([]seat, places)}, api.OK
}

// settle: these tenants, all of them in the table ahead of the first in the schedule.
func (h *Host) settle(l []Part) api.Errno {
	for _, p := range l {
		if err := h.table.Settle(p.Id, p.State, p.Place, p.Directory); err != api.OK {
			return err
		}
	}
	for _, p := range l {
		if p.State == tenant.Gone {
			continue
		}
		if err := h.beat.Add(string(p.Id), p.Period, p.Age); err != api.OK {
			return err
		}
		h.seats[p.Place] = seat{p.Period, p.Public}
	}
	return api.OK
}

// seal: a new super-epoch, over all that there are, and that there were.
func (h *Host) seal() {
	var l []super.Member
	for _, id := range append(h.table.Ids(tenant.Live), h.table.Ids(tenant.Held)...) {
		d, _ := h.table.Get([]byte(id), true)
		at, _ := h.table.Place([]byte(id))
		last, _ := d.Audit(d.Epoch(), d.Epoch())
		l = append(l, super.Member{Id: []byte(id), Epoch: d.Epoch(), Link: last[0].Link})
		h.seats[at].public = true
	}
	for _, id := range h.table.Ids(tenant.Gone) {
		l = append(l, super.Member{Id: []byte(id), Gone: true})
	}
	h.top.Seal(l)
	h.members = byId(l)
}

// byId: members by their ids; of the same id the last one counts, as it does under a root.
func byId(l []super.Member) map[string]super.Member {
	all := map[string]super.Member{}
	for _, m := range l {
		id := string(m.Id)
		m.Id = nil
		if m.Gone {
			m = super.Member{Gone: true} // a root has nothing else of it
		}
		all[id] = m
	}
	return all
}

// member: as it stands under the last super-root, if it does.
func (h *Host) member(id string) (super.Member, bool) {
	m, there := h.members[id]
	if !there {
		return super.Member{}, false
	}
	m.Id = []byte(id)
	return m, true
}

// part: one that is of this state.
func (h *Host) part(id string, state int) Part {
	p := Part{Id: []byte(id), State: state}
	if state == tenant.Gone {
		return p
	}
	p.Place, _ = h.table.Place(p.Id)
	p.Age, _ = h.beat.Age(id)
	p.Directory, _ = h.table.Get(p.Id, true)
	p.Period, p.Public = h.seats[p.Place].period, h.seats[p.Place].public
	return p
}

// stateOf: a host of these parts; a directory is its bundle.
func stateOf(seed [32]byte, places int, p Parts) []byte {
	w := &codec.Writer{}
	w.Sum(seed)
	w.Num(places)
	w.Num(p.Now)
	w.Num(len(p.Tenants))
	for _, t := range p.Tenants {
		putPart(w, t)
	}
	w.Num(len(p.Signed))
	for _, s := range p.Signed {
		w.Num(s.Epoch)
		w.Sum(s.Root)
		w.Text(s.Sig[:])
	}
	w.Num(len(p.Members))
	for _, m := range p.Members {
		w.Text(m.Id)
		w.Flag(m.Gone)
		w.Num(m.Epoch)
		w.Sum(m.Link)
	}
	b, _ := w.Bytes()
	return b
}

func putPart(w *codec.Writer, p Part) {
	w.Text(p.Id)
	w.Num(p.State)
	if p.State == tenant.Gone {
		return
	}
	w.Num(p.Place)
	w.Flag(p.Public)
	all, _ := bundle.Pack(bundle.Parcel{Directory: p.Directory, Period: p.Period, Age: p.Age, Held: p.State == tenant.Held})
	w.Text(all)
}
