package wire

import (
	"custumal/api"
	"custumal/codec"
	"custumal/direct"
	"custumal/proof"
	"custumal/super"
)

// maker puts parts behind each other; foul: one of them isn't in form.
type maker struct {
	codec.Writer
	foul bool
}

// made: all parts, if each of them is in form.
func (m *maker) made() ([]byte, api.Errno) {
	b, err := m.Bytes()
	if m.foul || err != api.OK {
		return nil, api.ErrForm
	}
	return b, api.OK
}

func (m *maker) request(r Request) {
	m.Byte(r.Kind)
	switch r.Kind {
	case Create:
		m.text(r.Id, api.MaxId)
		m.Sum(r.Keys.Vrf)
		m.Sum(r.Keys.Bind)
		m.nums(r.Limits.Labels, r.Limits.Pending, r.Limits.Epochs, r.Period)
	case Hold, Free, Delete, Export, Standing:
		m.text(r.Id, api.MaxId)
	case Put:
		m.text(r.Id, api.MaxId)
		m.text(r.Label, api.MaxLabel)
		m.text(r.Value, api.MaxValue)
	case Lookup:
		m.text(r.Id, api.MaxId)
		m.text(r.Label, api.MaxLabel)
		m.Num(r.From)
	case History:
		m.text(r.Id, api.MaxId)
		m.text(r.Label, api.MaxLabel)
	case Audit:
		m.text(r.Id, api.MaxId)
		m.nums(r.From, r.To)
	case Import:
		m.text(r.Bundle, maxBundle)
	case Growth:
		m.nums(r.From, r.To)
	default:
		m.foul = true
	}
}

func (m *maker) answer(a Answer) {
	m.Byte(a.Kind)
	m.Byte(int(a.Err))
	if a.Kind < 0 || a.Kind > Growth {
		m.foul = true
	}
	if a.Err != api.OK {
		return
	}
	switch a.Kind {
	case Create, Import:
		m.Num(a.Epoch)
	case Lookup:
		m.found(a.Found)
		m.Sum(a.Public)
		m.sums(a.Later)
		m.under(a.Under)
	case History:
		m.entries(a.Entries)
	case Audit:
		m.marks(a.Marks)
	case Export:
		m.text(a.Bundle, maxBundle)
	case Standing:
		m.member(a.Member)
		m.under(a.Under)
	case Growth:
		m.Sum(a.Log)
		m.sums(a.Sums)
	}
}

func (m *maker) found(f direct.Found) {
	m.Num(f.Epoch)
	m.Sum(f.Index)
	m.Text(f.Vrf[:])
	m.Flag(f.Present)
	m.Num(f.Version)
	m.text(f.Value, api.MaxValue)
	m.Sum(f.Bound)
	m.Sum(f.Open)
	m.proof(f.Proof)
	m.Sum(f.Root)
	m.Sum(f.Link)
	m.Sum(f.Ahead)
	m.Num(f.Reads)
}

func (m *maker) under(u Under) {
	m.proof(u.Proof)
	m.Num(u.Signed.Epoch)
	m.Sum(u.Signed.Root)
	m.Text(u.Signed.Sig[:])
	m.Sum(u.Log)
	m.sums(u.Sums)
}

func (m *maker) member(s super.Member) {
	m.text(s.Id, api.MaxId)
	m.Flag(s.Gone)
	m.Num(s.Epoch)
	m.Sum(s.Link)
}

func (m *maker) entries(l []direct.Entry) {
	if !m.count(len(l), maxList) {
		return
	}
	for _, e := range l {
		m.nums(e.Epoch, e.Version)
		m.text(e.Value, api.MaxValue)
	}
}

func (m *maker) marks(l []direct.Mark) {
	if !m.count(len(l), maxList) {
		return
	}
	for _, k := range l {
		m.Num(k.Epoch)
		m.Sum(k.Root)
		m.Sum(k.Link)
	}
}

// proof: layer 15 puts as many sums as there are, but takes no more than so many.
func (m *maker) proof(p proof.Proof) {
	if len(p.Sums) > maxSums {
		m.foul = true
		return
	}
	proof.Put(&m.Writer, p)
}

func (m *maker) sums(l [][32]byte) {
	if !m.count(len(l), maxSums) {
		return
	}
	for _, sum := range l {
		m.Sum(sum)
	}
}

func (m *maker) nums(l ...int) {
	for _, n := range l {
		m.Num(n)
	}
}

func (m *maker) text(b []byte, most int) {
	if len(b) > most {
		m.foul = true
		return
	}
	m.Text(b)
}

// count: of a list; may it have so many?
func (m *maker) count(n, most int) bool {
	if n > most {
		m.foul = true
		return false
	}
	m.Num(n)
	return true
}
