package wire

import (
	"custumal/api"
	"custumal/codec"
	"custumal/direct"
	"custumal/proof"
	"custumal/super"
	"custumal/vrf"
)

const sigSize = 64

// taker takes parts; foul: one of them isn't in form, though there are bytes enough.
type taker struct {
	*codec.Reader
	foul bool
}

// ended: was each part in form, and is nothing left?
func (t *taker) ended() bool { return !t.foul && t.End() == api.OK }

func (t *taker) request() Request {
	r := Request{Kind: t.Byte()}
	switch r.Kind {
	case Create:
		r.Id = t.text(api.MaxId)
		r.Keys = direct.Keys{Vrf: t.Sum(), Bind: t.Sum()}
		r.Limits = direct.Limits{Labels: t.Num(), Pending: t.Num(), Epochs: t.Num()}
		r.Period = t.Num()
	case Hold, Free, Delete, Export, Standing:
		r.Id = t.text(api.MaxId)
	case Put:
		r.Id = t.text(api.MaxId)
		r.Label = t.text(api.MaxLabel)
		r.Value = t.text(api.MaxValue)
	case Lookup:
		r.Id = t.text(api.MaxId)
		r.Label = t.text(api.MaxLabel)
		r.From = t.Num()
	case History:
		r.Id = t.text(api.MaxId)
		r.Label = t.text(api.MaxLabel)
	case Audit:
		r.Id = t.text(api.MaxId)
		r.From = t.Num()
		r.To = t.Num()
	case Import:
		r.Bundle = t.text(maxBundle)
	case Growth:
		r.From = t.Num()
		r.To = t.Num()
	default:
		t.foul = true
	}
	return r
}

func (t *taker) answer() Answer {
	a := Answer{Kind: t.Byte(), Err: api.Errno(t.Byte())}
	if a.Kind > Growth {
		t.foul = true
	}
	if a.Err != api.OK {
		return a
	}
	switch a.Kind {
	case Create, Import:
		a.Epoch = t.Num()
	case Lookup:
		a.Found = t.found()
		a.Public = t.Sum()
		a.Later = t.sums()
		a.Under = t.under()
	case History:
		a.Entries = t.entries()
	case Audit:
		a.Marks = t.marks()
	case Export:
		a.Bundle = t.text(maxBundle)
	case Standing:
		a.Member = t.member()
		a.Under = t.under()
	case Growth:
		a.Log = t.Sum()
		a.Sums = t.sums()
	}
	return a
}

func (t *taker) found() (f direct.Found) {
	f.Epoch = t.Num()
	f.Index = t.Sum()
	copy(f.Vrf[:], t.whole(vrf.Size))
	f.Present = t.Flag()
	f.Version = t.Num()
	f.Value = t.text(api.MaxValue)
	f.Bound = t.Sum()
	f.Open = t.Sum()
	f.Proof = t.proof()
	f.Root = t.Sum()
	f.Link = t.Sum()
	f.Ahead = t.Sum()
	f.Reads = t.Num()
	return f
}

func (t *taker) under() (u Under) {
	u.Proof = t.proof()
	u.Signed.Epoch = t.Num()
	u.Signed.Root = t.Sum()
	copy(u.Signed.Sig[:], t.whole(sigSize))
	u.Log = t.Sum()
	u.Sums = t.sums()
	return u
}

func (t *taker) member() super.Member {
	return super.Member{Id: t.text(api.MaxId), Gone: t.Flag(), Epoch: t.Num(), Link: t.Sum()}
}

func (t *taker) entries() (l []direct.Entry) {
	for range t.count(maxList) {
		l = append(l, direct.Entry{Epoch: t.Num(), Version: t.Num(), Value: t.text(api.MaxValue)})
	}
	return l
}

func (t *taker) marks() (l []direct.Mark) {
	for range t.count(maxList) {
		l = append(l, direct.Mark{Epoch: t.Num(), Root: t.Sum(), Link: t.Sum()})
	}
	return l
}

func (t *taker) proof() proof.Proof {
	p, err := proof.Take(t.Reader)
	if err != api.OK {
		t.foul = true
	}
	return p
}

func (t *taker) sums() (l [][32]byte) {
	for range t.count(maxSums) {
		l = append(l, t.Sum())
	}
	return l
}

// text: nil, where it has no bytes: nothing is told in one way.
func (t *taker) text(most int) []byte {
	if b := t.Text(most); len(b) > 0 {
		return b
	}
	return nil
}

// count: of a list; none, where it may not have so many.
func (t *taker) count(most int) int {
	n := t.Num()
	if n < 0 || n > most {
		t.foul = true
		return 0
	}
	return n
}

// whole: a text of just so many bytes.
func (t *taker) whole(size int) []byte {
	b := t.Text(size)
	if len(b) != size {
		t.foul = true
	}
	return b
}
