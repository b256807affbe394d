package monitor_test

import (
	"slices"
	"testing"

	"custumal/api"
	"custumal/monitor"
	"custumal/wire"
)

// roomy: the same, with spare room behind it.
func roomy[T any](l []T) []T { return append(slices.Clone(l), make([]T, 7)...)[:len(l)] }

func roomyAnswer(a wire.Answer) wire.Answer {
	a.Member.Id, a.Under.Proof.Sums, a.Under.Sums = roomy(a.Member.Id), roomy(a.Under.Proof.Sums), roomy(a.Under.Sums)
	a.Marks, a.Sums = roomy(a.Marks), roomy(a.Sums)
	return a
}

// room: all lists of answers, with their spare room.
func room(l ...wire.Answer) string {
	var all []any
	for _, a := range l {
		u := a.Under
		all = append(all, a, a.Member.Id[:cap(a.Member.Id)], u.Proof.Sums[:cap(u.Proof.Sums)], u.Sums[:cap(u.Sums)], a.Marks[:cap(a.Marks)], a.Sums[:cap(a.Sums)])
	}
	return said(all...)
}

func spoil(l ...wire.Answer) {
	for _, a := range l {
		clear(a.Member.Id[:cap(a.Member.Id)])
		clear(a.Under.Proof.Sums[:cap(a.Under.Proof.Sums)])
		clear(a.Under.Sums[:cap(a.Under.Sums)])
		clear(a.Marks[:cap(a.Marks)])
		clear(a.Sums[:cap(a.Sums)])
	}
}

// What is handed in is neither changed, its spare room neither, nor kept; answers are new memory (P29.3).
func TestMemory(t *testing.T) {
	w := three(t)
	id := roomy(w.id)
	was := slices.Clone(id[:cap(id)])
	m := monitor.New(public(), id)
	if !slices.Equal(id[:cap(id)], was) {
		t.Error("the id is changed")
	}
	clear(id[:cap(id)])
	for i := range 4 {
		now := w.later(i, i)
		a := now.watch(w)
		a = watch{roomyAnswer(a.stand), roomyAnswer(a.growth), roomyAnswer(a.audit)}
		was := room(a.stand, a.growth, a.audit)
		if err := a.by(m); err != api.OK {
			t.Fatalf("watch %d: %v", i, err)
		}
		if room(a.stand, a.growth, a.audit) != was {
			t.Errorf("watch %d: an answer is changed", i)
		}
		spoil(a.stand, a.growth, a.audit)
		now.expectLast("spoilt", m)
		growth, audit := m.Asks(9, 9)
		clear(audit.Id[:cap(audit.Id)])
		if again, other := m.Asks(9, 9); said(again) != said(growth) || string(other.Id) != "tenant" {
			t.Errorf("watch %d: what is asked shares memory with the monitor", i)
		}
		w = now
	}
}

// No monitor knows of another one.
func TestMonitorsAreApart(t *testing.T) {
	w := three(t)
	one, other := w.began(), monitor.New(public(), w.id)
	now := w.later(1, 1)
	now.watch(w).by(one)
	if _, ok := other.Last(); ok {
		t.Error("something was seen")
	}
	if err := w.watch(w).by(other); err != api.OK {
		t.Error(err)
	}
	now.expectLast("one", one)
	w.expectLast("other", other)
}
