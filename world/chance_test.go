package world_test

import (
	"fmt"
	"math/rand"
	"slices"
	"testing"

	"custumal/api"
	"custumal/direct"
	"custumal/keep"
	"custumal/super"
	"custumal/wire"
	"custumal/world"
)

// script: so many events, by chance; of the power only if it may go off.
func (c chance) script(count int, power bool) (l []world.Event) {
	for range count {
		e := c.request("a", "b", "c", "d")
		switch n := c.Intn(24); {
		case n < 4:
			e = tick
		case n == 4:
			e = crash(c.keeps()...)
		case n == 5 && power:
			e = arm(c.Intn(12) - 1)
		case n == 6:
			e.Kind = one(c, 0, 5, -1, 6)
		}
		l = append(l, e)
	}
	return l
}

// Scripts by chance in which the power stays on are held against a plain host (P32.1, P32.2; P4).
func TestByChance(t *testing.T) {
	t.Parallel()
	taken := 0
	for round := range 8 {
		c := chance{rand.New(rand.NewSource(int64(round)))}
		conf := keep.Config{Seed: [32]byte{byte(round)}, Places: 1 + round%4, Now: round, Common: 500, Each: 200}
		l := c.script(250, false)
		p := newPlain(t, conf)
		for _, e := range l {
			p.do(e)
		}
		want := p.end()
		expect(t, fmt.Sprint("round ", round), conf, l, want)
		taken += want.Taken
	}
	if taken < 200 {
		t.Errorf("%d answers alone came to be taken", taken)
	}
}

// Scripts by chance in which it goes off are held against a store that is led step by step; whatever is kept, nothing is refused, and no super-epoch has two super-roots (P32.1, P32.2; P6).
func TestPowerByChance(t *testing.T) {
	t.Parallel()
	down, taken := 0, 0
	for round := range 12 {
		c := chance{rand.New(rand.NewSource(int64(100 + round)))}
		conf := keep.Config{Seed: [32]byte{byte(round), 1}, Places: 1 + round%4, Common: 30 + 20*(round%3), Each: 12}
		l := c.script(200, true)
		a := newAccount(t, conf)
		for _, e := range l {
			a.do(e)
		}
		if a.disk.Down() {
			down++
		}
		want := a.end()
		expect(t, fmt.Sprint("round ", round), conf, l, want)
		r, _ := world.Run(conf, l)
		counts(t, fmt.Sprint("round ", round), r)
		oneRoot(t, r)
		taken += want.Taken
	}
	if down < 2 || taken < 150 {
		t.Errorf("%d scripts alone end without power; %d answers came to be taken", down, taken)
	}
}

// oneRoot: of no super-epoch are two super-roots told, in the whole script (P6).
func oneRoot(t *testing.T, r world.Report) {
	t.Helper()
	told := map[int]super.Signed{}
	for i, b := range r.Answers {
		if !shows(b) {
			continue
		}
		a, _ := wire.Told(b)
		s := a.Under.Signed
		if was, there := told[s.Epoch]; there && was != s {
			t.Fatalf("answer %d: super-epoch %d has two super-roots", i, s.Epoch)
		}
		told[s.Epoch] = s
	}
}

// life: all that is done to a store, with what a client looks at in between.
func life() []world.Event {
	return []world.Event{
		create("a", 1), create("b", 2), put("a", "l", "v"), tick, look("a", "l", -1), put("b", "sixty-four bytes and more of a label"[:32], string(make([]byte, 64))),
		brought("c", 2, 1, false), tick, of(wire.Standing, "c"), of(wire.Hold, "b"), of(wire.Delete, "a"), of(wire.Standing, "a"), tick, of(wire.Standing, "a"), look("c", "l", -1),
	}
}

// The power goes off at each write of a life, and whatever is kept: behind the crash there is the State of all that was answered, and perhaps of what was under way; the rest of the life goes on, and nothing that was told is told otherwise (P32.2; P6).
func TestEachWrite(t *testing.T) {
	t.Parallel()
	l := life()
	var states []string
	p := newPlain(t, small())
	states = append(states, string(p.host.State()))
	for _, e := range l {
		p.do(e)
		states = append(states, string(p.host.State()))
	}
	before, after := 0, 0
	for n := 1; ; n++ {
		armed := slices.Concat([]world.Event{arm(n)}, l)
		r, err := world.Run(small(), armed)
		if err != api.OK {
			t.Fatal(err)
		}
		at := slices.IndexFunc(r.Answers, func(b []byte) bool { return len(b) > 0 && api.Errno(b[len(b)-1]) == api.ErrDown && len(b) < 3 })
		if at < 0 {
			break
		}
		for _, keeps := range [][]bool{nil, {true}, {false, true}, {true, true}, {true, false, true}, {false, false, true}, {true, true, true, true, true, true, true, true}} {
			r, err := world.Run(small(), append(slices.Clone(armed[:at+1]), crash(keeps...)))
			done := string(r.State) == states[at]
			was := string(r.State) == states[at-1]
			if err != api.OK || !done && !was {
				t.Fatalf("off at the write %d, in the event %d: %v, or another State", n, at-1, err)
			}
			if done {
				after++
			} else {
				before++
			}
			rest := slices.Concat(armed[:at+1], []world.Event{crash(keeps...)}, l[at-1:], l)
			r, err = world.Run(small(), rest)
			if err != api.OK {
				t.Fatal(err)
			}
			counts(t, fmt.Sprint("off at the write ", n), r)
			oneRoot(t, r)
		}
	}
	if before < 20 || after < 20 {
		t.Errorf("what was under way was there %d times, and not there %d times", after, before)
	}
}

// What others do changes nothing of a tenant's answers, but what stands Under it (P5).
func TestOthers(t *testing.T) {
	t.Parallel()
	shown := 0
	for round := range 6 {
		c := chance{rand.New(rand.NewSource(int64(200 + round)))}
		conf := keep.Config{Seed: [32]byte{byte(round), 2}, Places: 4, Common: 600, Each: 200}
		var all, alone []world.Event
		var mine []int // which of all are its own
		for range 300 {
			e, own := c.request("b", "c", "d"), false
			switch n := c.Intn(20); {
			case n < 2:
				e, own = tick, true
			case n == 2:
				e, own = crash(), true
			case n < 13:
				e, own = c.request("a"), true
			}
			if own {
				alone = append(alone, e)
				mine = append(mine, len(all))
			}
			all = append(all, e)
		}
		among, err := world.Run(conf, all)
		if err != api.OK {
			t.Fatal(err)
		}
		apart, err := world.Run(conf, alone)
		if err != api.OK {
			t.Fatal(err)
		}
		for i, at := range mine {
			got, want := withoutUnder(among.Answers[at]), withoutUnder(apart.Answers[i])
			if said(got) != said(want) {
				t.Fatalf("round %d, event %d:\n%.300s\nnot\n%.300s", round, at, said(got), said(want))
			}
			if got.Kind == wire.Lookup && got.Err == api.OK {
				shown++
			}
		}
	}
	if shown < 50 {
		t.Errorf("%d looks alone told something", shown)
	}
}

// withoutUnder: an answer, but for what stands Under it, and for a log that others' roots are in.
func withoutUnder(b []byte) wire.Answer {
	a, _ := wire.Told(b)
	a.Under, a.Log, a.Sums = wire.Under{}, [32]byte{}, nil
	return a
}

// Two labels of one index can't be found; of labels that are alike in all but their last byte each look is taken (P32.2).
func TestLabelsThatAreNear(t *testing.T) {
	t.Parallel()
	l := []world.Event{ask(wire.Request{Kind: wire.Create, Id: []byte("a"), Limits: direct.Limits{Labels: 64, Pending: 16, Epochs: 32}, Period: 1})}
	for i := range 64 {
		l = append(l, put("a", string(append(make([]byte, 31), byte(i))), "v"))
		if i%16 == 15 {
			l = append(l, tick)
		}
	}
	for i := range 70 {
		l = append(l, look("a", string(append(make([]byte, 31), byte(i))), i%6-1))
	}
	r, err := world.Run(keep.Config{Places: 1, Common: 100, Each: 100}, l)
	if err != api.OK {
		t.Fatal(err)
	}
	counts(t, "64 labels", r)
	if r.Taken < 60 {
		t.Errorf("%d looks alone are taken", r.Taken)
	}
}
