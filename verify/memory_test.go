package verify_test

import (
	"slices"
	"testing"

	"custumal/api"
	"custumal/direct"
	"custumal/super"
	"custumal/verify"
	"custumal/wire"
)

// roomy: the same, with spare room behind it.
func roomy[T any](l []T) []T { return append(slices.Clone(l), make([]T, 7)...)[:len(l)] }

// roomyCall: all lists of a call have spare room.
func roomyCall(c call) call {
	c.id, c.label = roomy(c.id), roomy(c.label)
	f, u := &c.a.Found, &c.a.Under
	f.Value, f.Proof.Sums = roomy(f.Value), roomy(f.Proof.Sums)
	c.a.Later, u.Proof.Sums, u.Sums = roomy(c.a.Later), roomy(u.Proof.Sums), roomy(u.Sums)
	c.a.Member.Id, c.a.Sums = roomy(c.a.Member.Id), roomy(c.a.Sums)
	return c
}

func bytesOf(c call) [][]byte { return [][]byte{c.id, c.label, c.a.Found.Value, c.a.Member.Id} }

func sumsOf(c call) [][][32]byte {
	return [][][32]byte{c.a.Found.Proof.Sums, c.a.Later, c.a.Under.Proof.Sums, c.a.Under.Sums, c.a.Sums}
}

// room: all lists of a call, with their spare room.
func room(c call) string {
	var all []any
	for _, b := range bytesOf(c) {
		all = append(all, b[:cap(b)])
	}
	for _, l := range sumsOf(c) {
		all = append(all, l[:cap(l)])
	}
	return said(append(all, c)...)
}

func spoil(c call) {
	for _, b := range bytesOf(c) {
		for i := range b[:cap(b)] {
			b[:cap(b)][i] ^= 0x55
		}
	}
	for _, l := range sumsOf(c) {
		for i := range l[:cap(l)] {
			l[:cap(l)][i] = sumOf("spoilt")
		}
	}
}

// What is handed in is neither changed, its spare room neither, nor shared with what is answered (P28.3).
func TestArgumentsAreLeftAlone(t *testing.T) {
	looks := map[string]tale{"usual": usual(), "absent": absent(), "epoch 0": first()}
	for why, s := range looks {
		c, want := s.call(t)
		expectApart(t, why, roomyCall(c), want, call.look)
	}
	for why, m := range members() {
		a, want := standing(m, some(3), 9)
		expectApart(t, why, roomyCall(call{public: publicOf(seed), id: m.Id, a: a}), want, call.stand)
	}
	old, a := growth(t, 5, 11)
	expectApart(t, "growth", roomyCall(call{a: a}), verify.Seen{}, func(c call) (verify.Seen, api.Errno) {
		return verify.Seen{}, verify.Grow(5, 11, old, c.a)
	})
}

func expectApart(t *testing.T, why string, c call, want verify.Seen, tell func(c call) (verify.Seen, api.Errno)) {
	t.Helper()
	was := room(c)
	got, err := tell(c)
	if err != api.OK || said(got) != said(want) || room(c) != was {
		t.Errorf("%s: %v, or what was handed in is changed", why, err)
	}
	value := got.Value[:cap(got.Value)]
	for i := range value {
		value[i] ^= 0x55
	}
	if room(c) != was {
		t.Errorf("%s: the answer shares memory with what was handed in", why)
	}
	for i := range value {
		value[i] ^= 0x55
	}
	spoil(c)
	if said(got) != said(want) {
		t.Errorf("%s: what is answered hangs on what was handed in", why)
	}
}

// Nothing is known of other calls: the same is told again (P28.3; rule 5).
func TestTheSameAgain(t *testing.T) {
	c, want := usual().call(t)
	for range 3 {
		expectSeen(t, "usual", want, c.look)
		expectRefused(t, "another id", api.ErrProof, c.with(func(c *call) { c.id = []byte("tenans") }).look)
		verify.Stand(c.public, c.id, wire.Answer{Kind: wire.Standing, Member: super.Member{Id: c.id}, Marks: make([]direct.Mark, 1)})
	}
}
