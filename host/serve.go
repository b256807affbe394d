package host

import (
	"custumal/api"
	"custumal/bundle"
	"custumal/codec"
	"custumal/direct"
	"custumal/tenant"
	"custumal/wire"
)

// serve: a request, done by its kind. Those kinds that ask something of a tenant's directory go on into each other: a look asks for one that is published, all who read for one that may be held, too, and these and a put for the directory.
func (h *Host) serve(r wire.Request) (a wire.Answer, err api.Errno) {
	if h == nil {
		return a, api.ErrArg
	}
	var held, public bool
	switch r.Kind {
	case wire.Create:
		err = h.create(r)
	case wire.Import:
		a.Epoch, err = h.bring(r.Bundle)
	case wire.Hold:
		err = h.table.Hold(r.Id)
	case wire.Free:
		err = h.table.Free(r.Id)
	case wire.Delete:
		err = h.remove(r.Id)
	case wire.Lookup:
		public = true
		fallthrough
	case wire.History, wire.Audit, wire.Export:
		held = true
		fallthrough
	case wire.Put:
		return h.ofTenant(r, held, public)
	case wire.Standing:
		return h.standing(r.Id)
	case wire.Growth:
		return h.growth(r.From, r.To)
	default:
		err = api.ErrForm
	}
	return a, err
}

func (h *Host) create(r wire.Request) api.Errno {
	if r.Period < 1 || r.Period > api.MaxPeriod {
		return api.ErrArg
	}
	at, err := h.table.Create(r.Id, r.Keys, r.Limits)
	if err != api.OK {
		return err
	}
	h.enter(string(r.Id), at, r.Period, 0)
	return api.OK
}

// bring: the tenant of a bundle; its last epoch.
func (h *Host) bring(b []byte) (int, api.Errno) {
	p, err := bundle.Unpack(b)
	if err != api.OK {
		return 0, err
	}
	id := p.Directory.Id()
	at, err := h.table.Import(id, p.Directory)
	if err != api.OK {
		return 0, err
	}
	if p.Held {
		h.table.Hold(id)
	}
	h.enter(string(id), at, p.Period, p.Age)
	return p.Directory.Epoch(), api.OK
}

// enter: who has a place now gets its beat, and isn't published yet.
func (h *Host) enter(id string, at, period, age int) {
	h.beat.Add(id, period, age)
	h.seats[at] = seat{period: period}
}

func (h *Host) remove(id []byte) api.Errno {
	at, err := h.table.Delete(id)
	if err != api.OK {
		return err
	}
	h.beat.Remove(string(id))
	h.lately.Drop(at)
	h.seats[at] = seat{}
	return api.OK
}

// ofTenant: what is asked of a tenant's directory; is it asked of one that is held, too, and only of one that is published?
func (h *Host) ofTenant(r wire.Request, held, public bool) (a wire.Answer, err api.Errno) {
	d, err := h.table.Get(r.Id, held)
	if err != api.OK {
		return a, err
	}
	at, _ := h.table.Place(r.Id)
	if public && !h.seats[at].public {
		return a, api.ErrMiss
	}
	switch r.Kind {
	case wire.Put:
		err = d.Put(r.Label, r.Value)
	case wire.Lookup:
		return h.look(r, d, at)
	case wire.History:
		a.Entries, err = d.History(r.Label)
	case wire.Audit:
		a.Marks, err = d.Audit(r.From, r.To)
	case wire.Export:
		age, _ := h.beat.Age(string(r.Id))
		isHeld := h.table.State(r.Id) == tenant.Held
		a.Bundle, err = bundle.Pack(bundle.Parcel{Directory: d, Period: h.seats[at].period, Age: age, Held: isHeld})
	}
	return a, err
}

func (h *Host) look(r wire.Request, d *direct.Directory, at int) (a wire.Answer, err api.Errno) {
	a.Found, err = h.find(r.Label, r.From, d, at)
	if err != api.OK {
		return a, err
	}
	a.Public = d.Public()
	later, _ := d.Audit(a.Found.Epoch+1, d.Epoch())
	for _, m := range later {
		a.Later = append(a.Later, m.Root)
	}
	a.Under = h.under(r.Id)
	return a, api.OK
}

// find: what the cache has; else what the directory tells, which is kept then. What an epoch tells stays, so the one is as good as the other.
func (h *Host) find(label []byte, epoch int, d *direct.Directory, at int) (direct.Found, api.Errno) {
	if epoch == -1 {
		epoch = d.Epoch()
	}
	name := nameOf(label, epoch)
	if what, there := h.lately.Get(at, name); there {
		f, err := wire.Seen([]byte(what))
		f.Reads = 0
		return f, err
	}
	f, err := d.Lookup(label, epoch)
	if err != api.OK {
		return direct.Found{}, err
	}
	what, err := wire.Saw(f)
	h.lately.Put(at, name, string(what))
	return f, err
}

// nameOf: by what a look is kept.
func nameOf(label []byte, epoch int) string {
	w := &codec.Writer{}
	w.Byte(0)
	w.Num(epoch)
	end, _ := w.Bytes()
	return string(label) + string(end)
}

func (h *Host) standing(id []byte) (a wire.Answer, err api.Errno) {
	if len(id) < 1 || len(id) > api.MaxId {
		return a, api.ErrArg
	}
	m, there := h.member(string(id))
	if !there {
		return a, api.ErrMiss
	}
	a.Member, a.Under = m, h.under(id)
	return a, api.OK
}

func (h *Host) growth(from, to int) (a wire.Answer, err api.Errno) {
	a.Sums, err = h.top.Consistency(from, to)
	if err == api.OK {
		a.Log, err = h.top.LogRoot(to)
	}
	return a, err
}

// under: what shows how an id stands under the last super-root, and that the log has it.
func (h *Host) under(id []byte) (u wire.Under) {
	all := h.top.Epochs()
	u.Proof = h.top.Prove(id)
	u.Signed, _ = h.top.Last()
	u.Log, _ = h.top.LogRoot(all)
	u.Sums, _ = h.top.Inclusion(all-1, all)
	return u
}
