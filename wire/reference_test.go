package wire_test

import (
	"encoding/binary"
	"fmt"
	"math"
	"math/rand"
	"reflect"
	"slices"
	"testing"

	"custumal/api"
	"custumal/direct"
	"custumal/proof"
	"custumal/super"
	"custumal/tree"
	"custumal/wire"
)

// What the chapter says, put together apart.

func num(n int) []byte { return binary.BigEndian.AppendUint64(nil, uint64(n)) }

func text(b []byte) []byte { return append(binary.BigEndian.AppendUint16(nil, uint16(len(b))), b...) }

func flag(yes bool) []byte {
	if yes {
		return []byte{1}
	}
	return []byte{0}
}

// list: the count, and the parts of each.
func list[T any](l []T, part func(T) []byte) []byte {
	b := num(len(l))
	for _, e := range l {
		b = append(b, part(e)...)
	}
	return b
}

func sums(l [][32]byte) []byte { return list(l, func(sum [32]byte) []byte { return sum[:] }) }

func proofBytes(p proof.Proof) []byte {
	b := append(sums(p.Sums), flag(p.There)...)
	if p.There {
		b = slices.Concat(b, p.End.Key[:], p.End.Value[:])
	}
	return b
}

func foundBytes(f direct.Found) []byte {
	return slices.Concat(num(f.Epoch), f.Index[:], text(f.Vrf[:]), flag(f.Present), num(f.Version), text(f.Value),
		f.Bound[:], f.Open[:], proofBytes(f.Proof), f.Root[:], f.Link[:], f.Ahead[:], num(f.Reads))
}

func underBytes(u wire.Under) []byte {
	s := u.Signed
	return slices.Concat(proofBytes(u.Proof), num(s.Epoch), s.Root[:], text(s.Sig[:]), u.Log[:], sums(u.Sums))
}

func requestBytes(r wire.Request) []byte {
	id, label, from, to := text(r.Id), text(r.Label), num(r.From), num(r.To)
	behind := map[int][]byte{
		1: slices.Concat(id, r.Keys.Vrf[:], r.Keys.Bind[:], num(r.Limits.Labels), num(r.Limits.Pending), num(r.Limits.Epochs), num(r.Period)),
		2: id, 3: id, 4: id, 9: id, 11: id,
		5:  slices.Concat(id, label, text(r.Value)),
		6:  slices.Concat(id, label, from),
		7:  slices.Concat(id, label),
		8:  slices.Concat(id, from, to),
		10: text(r.Bundle),
		12: slices.Concat(from, to),
	}
	return append([]byte{byte(r.Kind)}, behind[r.Kind]...)
}

func answerBytes(a wire.Answer) []byte {
	head := []byte{byte(a.Kind), byte(a.Err)}
	if a.Err != api.OK {
		return head
	}
	m := a.Member
	behind := map[int][]byte{
		1:  num(a.Epoch),
		6:  slices.Concat(foundBytes(a.Found), a.Public[:], sums(a.Later), underBytes(a.Under)),
		7:  list(a.Entries, func(e direct.Entry) []byte { return slices.Concat(num(e.Epoch), num(e.Version), text(e.Value)) }),
		8:  list(a.Marks, func(m direct.Mark) []byte { return slices.Concat(num(m.Epoch), m.Root[:], m.Link[:]) }),
		9:  text(a.Bundle),
		10: num(a.Epoch),
		11: slices.Concat(text(m.Id), flag(m.Gone), num(m.Epoch), m.Link[:], underBytes(a.Under)),
		12: slices.Concat(a.Log[:], sums(a.Sums)),
	}
	return append(head, behind[a.Kind]...)
}

// mixed: what the kind has is r's, the rest is base's.
func mixed(base, r wire.Request) wire.Request {
	base.Kind = r.Kind
	if r.Kind != wire.Import && r.Kind != wire.Growth {
		base.Id = r.Id
	}
	switch r.Kind {
	case wire.Create:
		base.Keys, base.Limits, base.Period = r.Keys, r.Limits, r.Period
	case wire.Put:
		base.Label, base.Value = r.Label, r.Value
	case wire.Lookup:
		base.Label, base.From = r.Label, r.From
	case wire.History:
		base.Label = r.Label
	case wire.Audit, wire.Growth:
		base.From, base.To = r.From, r.To
	case wire.Import:
		base.Bundle = r.Bundle
	}
	return base
}

func mixedAnswer(base, a wire.Answer) wire.Answer {
	base.Kind, base.Err = a.Kind, a.Err
	if a.Err != api.OK {
		return base
	}
	switch a.Kind {
	case wire.Create, wire.Import:
		base.Epoch = a.Epoch
	case wire.Lookup:
		base.Found, base.Public, base.Later, base.Under = a.Found, a.Public, a.Later, a.Under
	case wire.History:
		base.Entries = a.Entries
	case wire.Audit:
		base.Marks = a.Marks
	case wire.Export:
		base.Bundle = a.Bundle
	case wire.Standing:
		base.Member, base.Under = a.Member, a.Under
	case wire.Growth:
		base.Log, base.Sums = a.Log, a.Sums
	}
	return base
}

// bare: what the kind has, and nothing else.
func bare(a wire.Answer) wire.Answer {
	a = mixedAnswer(wire.Answer{}, a)
	a.Found.Proof, a.Under.Proof = bareProof(a.Found.Proof), bareProof(a.Under.Proof)
	return a
}

func bareProof(p proof.Proof) proof.Proof {
	if !p.There {
		p.End = tree.Leaf{}
	}
	return p
}

// said: as text, in which nil and empty lists are one.
func said(a any) string { return fmt.Sprintf("%+x", a) }

func same(a, b any) bool { return reflect.DeepEqual(a, b) || said(a) == said(b) }

// expect: what a call told; beside an error nothing.
func expect[T any](t *testing.T, why string, got T, err api.Errno, want T, wantErr api.Errno) {
	t.Helper()
	if err != wantErr || !same(got, want) {
		t.Fatalf("%.200s: %.2000s, %v, not %.2000s, %v", why, said(got), err, said(want), wantErr)
	}
}

// chance makes parts, of no more than their limits.
type chance struct{ *rand.Rand }

func (c chance) num() int {
	all := []int{0, 1, -1, 255, 256, 1 << 40, math.MaxInt, math.MinInt, int(c.Uint64())}
	return all[c.Intn(len(all))]
}

func (c chance) sum() (b [32]byte) {
	c.Read(b[:])
	return b
}

// some: of at most so many, often none or just the most.
func (c chance) some(most int) int {
	all := []int{0, most, c.Intn(most + 1), 1}
	return all[c.Intn(len(all))]
}

func (c chance) text(most int) []byte {
	b := make([]byte, c.some(most))
	c.Read(b)
	return b
}

func (c chance) sums(most int) (l [][32]byte) {
	for range c.some(most) {
		l = append(l, c.sum())
	}
	return l
}

func (c chance) proof() proof.Proof {
	return proof.Proof{Sums: c.sums(256), There: c.Intn(2) == 0, End: tree.Leaf{Key: c.sum(), Value: c.sum()}}
}

func (c chance) found() direct.Found {
	f := direct.Found{
		Epoch: c.num(), Index: c.sum(), Present: c.Intn(2) == 0, Version: c.num(), Value: c.text(64), Bound: c.sum(),
		Open: c.sum(), Proof: c.proof(), Root: c.sum(), Link: c.sum(), Ahead: c.sum(), Reads: c.num(),
	}
	c.Read(f.Vrf[:])
	return f
}

func (c chance) under() wire.Under {
	u := wire.Under{Proof: c.proof(), Signed: super.Signed{Epoch: c.num(), Root: c.sum()}, Log: c.sum(), Sums: c.sums(256)}
	c.Read(u.Signed.Sig[:])
	return u
}

func (c chance) request(kind int) wire.Request {
	return wire.Request{
		Kind: kind, Id: c.text(16), Keys: direct.Keys{Vrf: c.sum(), Bind: c.sum()},
		Limits: direct.Limits{Labels: c.num(), Pending: c.num(), Epochs: c.num()}, Period: c.num(),
		Label: c.text(32), Value: c.text(64), From: c.num(), To: c.num(), Bundle: c.text(65535),
	}
}

func (c chance) answer(kind int) wire.Answer {
	a := wire.Answer{
		Kind: kind, Epoch: c.num(), Found: c.found(), Public: c.sum(), Later: c.sums(256), Under: c.under(),
		Member: super.Member{Id: c.text(16), Gone: c.Intn(2) == 0, Epoch: c.num(), Link: c.sum()},
		Bundle: c.text(65535), Log: c.sum(), Sums: c.sums(256),
	}
	for range c.some(1024) {
		a.Entries = append(a.Entries, direct.Entry{Epoch: c.num(), Version: c.num(), Value: c.text(64)})
	}
	for range c.some(1024) {
		a.Marks = append(a.Marks, direct.Mark{Epoch: c.num(), Root: c.sum(), Link: c.sum()})
	}
	return a
}

func byChance(seed int64) chance { return chance{rand.New(rand.NewSource(seed))} }
