package super_test

import (
	"bytes"
	"crypto/sha256"
	"slices"
	"testing"

	"custumal/api"
	"custumal/super"
)

func sum(b []byte) [32]byte { return sha256.Sum256(b) }

// roomy: these bytes, with spare room behind them.
func roomy(text string) []byte { return append([]byte(text), "spare room"...)[:len(text)] }

// roomyMembers: two members, whose ids and list have spare room.
func roomyMembers() []super.Member {
	l := append(make([]super.Member, 0, 4), member("a", 1), member("b", 2))
	l[:3][2] = member("spare", 3)
	for i := range l {
		l[i].Id = roomy(string(l[i].Id))
	}
	return l
}

func spoilMembers(l []super.Member) {
	for i := range l {
		id := l[i].Id[:cap(l[i].Id)]
		for j := range id {
			id[j] = 'z'
		}
		l[i] = gone("spoilt")
	}
	clear(l[:cap(l)])
}

func sameMembers(a, b []super.Member) bool {
	return slices.EqualFunc(a[:3], b[:3], func(a, b super.Member) bool {
		return bytes.Equal(a.Id[:cap(a.Id)], b.Id[:cap(b.Id)]) && a.Gone == b.Gone && a.Epoch == b.Epoch && a.Link == b.Link
	})
}

// Members and lists are neither changed, their spare room neither, nor kept (P23.3).
func TestArgumentsAreLeftAlone(t *testing.T) {
	s, r := super.New(seed), &record{seed: seed}
	for range 3 {
		l := roomyMembers()
		s.Seal(l)
		r.seal(roomyMembers())
		if !sameMembers(l, roomyMembers()) {
			t.Errorf("members are changed: %+v", l)
		}
		spoilMembers(l)
		expectRecord(t, s, r)
	}
	list, l := append(make([]super.Signed, 0, 5), r.list...), roomyMembers()
	again, err := super.Restore(seed, list, l)
	if err != api.OK || !slices.Equal(list, r.list) || list[:4][3] != (super.Signed{}) || !sameMembers(l, roomyMembers()) {
		t.Errorf("%v; a list is changed", err)
	}
	clear(list[:cap(list)])
	spoilMembers(l)
	expectRecord(t, again, r)
	again.Seal(nil)
	if list[:4][3] != (super.Signed{}) {
		t.Error("the next super-epoch is in the list's spare room")
	}
	id := roomy("a")
	again.Prove(id)
	super.Key(id)
	if string(id[:11]) != "aspare room" {
		t.Errorf("an id is changed: %q", id[:cap(id)])
	}
}

// A Super is as it was, whatever becomes of its answers (P23.3).
func TestAnswersAreNew(t *testing.T) {
	s, r := super.New(seed), &record{seed: seed}
	for n := range 9 {
		l := []super.Member{member("a", n), member("b", n), gone("c"), member("d", n)}
		s.Seal(l)
		r.seal(l)
	}
	for range 2 {
		for _, id := range []string{"a", "b", "c", "d", "e"} {
			sums := s.Prove([]byte(id)).Sums
			clear(sums[:cap(sums)])
		}
		for to := 1; to <= 9; to++ {
			for from := range to {
				p, _ := s.Inclusion(from, to)
				clear(p[:cap(p)])
				p, _ = s.Consistency(from, to)
				clear(p[:cap(p)])
			}
		}
		expectRecord(t, s, r)
	}
}

// Texts are new memory, and share none with what is handed in (P23.3).
func TestTextsAreNew(t *testing.T) {
	id := roomy("a")
	m := member("a", 1)
	m.Id = id
	for range 2 {
		for _, text := range [][]byte{super.KeyText(id), super.ValueText(m), super.ValueText(gone("a")), super.Text(1, m.Link)} {
			clear(text[:cap(text)])
		}
		if string(id[:11]) != "aspare room" || m.Link != member("a", 1).Link {
			t.Error("a text shares memory with what was handed in")
		}
		if !bytes.Equal(super.KeyText(id), keyText(id)) || !bytes.Equal(super.ValueText(m), valueText(m)) || !bytes.Equal(super.ValueText(gone("a")), []byte{7}) {
			t.Error("texts share memory with each other")
		}
	}
}
