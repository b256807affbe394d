package world_test

import (
	"fmt"
	"math"
	"slices"
	"testing"

	"custumal/api"
	"custumal/host"
	"custumal/keep"
	"custumal/wire"
	"custumal/world"
)

func small() keep.Config {
	return keep.Config{Seed: [32]byte{5, 31: 2}, Places: 3, Now: 2, Common: 60, Each: 20}
}

// The chapter's example: of no event there is no answer, and the State is a new host's (P32.1).
func TestExample(t *testing.T) {
	for _, c := range []keep.Config{small(), {Places: 1, Common: 1, Each: 1}, {Places: 8, Now: math.MaxInt, Common: 8, Each: 1023}} {
		h, _ := host.New(c.Seed, c.Places, c.Now)
		for _, l := range [][]world.Event{nil, {}} {
			r, err := world.Run(c, l)
			if err != api.OK || said(r) != said(world.Report{State: h.State()}) {
				t.Errorf("%+v: %v, %+v", c, err, r)
			}
		}
	}
}

// The kinds of events have the numbers of the chapter (P32.1).
func TestKinds(t *testing.T) {
	if world.Ask != 1 || world.Tick != 2 || world.Arm != 3 || world.Crash != 4 {
		t.Error("another number")
	}
}

// What is no config: nothing but ErrArg, whatever the script is (P32.1).
func TestNoConfig(t *testing.T) {
	for _, c := range []keep.Config{
		{}, {Places: 0, Common: 1, Each: 1}, {Places: 9, Common: 1, Each: 1}, {Places: 1, Now: -1, Common: 1, Each: 1}, {Places: 1, Common: 0, Each: 1},
		{Places: 1, Common: 1, Each: 0}, {Places: 1, Common: 8192, Each: 1}, {Places: 2, Common: 1, Each: 4096}, {Places: math.MinInt, Common: math.MaxInt, Each: math.MaxInt},
	} {
		for _, l := range [][]world.Event{nil, {tick, create("a", 1)}} {
			if r, err := world.Run(c, l); err != api.ErrArg || said(r) != said(world.Report{}) {
				t.Errorf("%+v: %v, %+v", c, err, r)
			}
		}
	}
}

// Each kind of event, and of request; those that a host refuses, bytes that are no request's, and events of other kinds; with a look told twice, ahead of a crash and behind it (P32.1, P32.2).
func TestEvents(t *testing.T) {
	l := []world.Event{
		look("a", "l", -1), of(wire.Standing, "a"), create("a", 1), create("a", 1), look("a", "l", -1), put("a", "l", "v"), of(wire.Standing, "a"), tick,
		look("a", "l", -1), look("a", "l", -1), look("a", "l", 0), look("a", "l", 2), look("a", "", 0), of(wire.Standing, "a"), of(wire.Standing, "b"), crash(),
		look("a", "l", -1), look("a", "m", 1), bytes(nil), bytes([]byte{0}), bytes([]byte{6, 0}), bytes([]byte{13, 0}), crash(true, true), crash(false),
		brought("b", 3, 2, true), of(wire.Export, "b"), put("b", "l", "v"), tick, look("b", "l", 2), look("b", "m", -1), of(wire.Free, "b"), put("b", "l", ""),
		{}, {Kind: 5, Bytes: create("c", 1).Bytes, N: 1}, {Kind: -1, N: 1}, {Kind: math.MinInt}, {Kind: math.MaxInt, Keep: []bool{true}}, arm(0), arm(-1), arm(1000),
		ask(wire.Request{Kind: wire.History, Id: []byte("b"), Label: []byte("l")}), ask(wire.Request{Kind: wire.Audit, Id: []byte("b"), To: 3}),
		ask(wire.Request{Kind: wire.Growth, From: 1, To: 3}), of(wire.Hold, "a"), look("a", "l", -1), of(wire.Delete, "a"), of(wire.Standing, "a"), look("a", "l", -1),
		crash(), of(wire.Standing, "a"), tick, of(wire.Standing, "a"), create("a", 1), {Kind: world.Tick, Bytes: []byte{1}, N: 1, Keep: []bool{true}}, of(wire.Standing, "b"),
	}
	for n := range len(l) + 1 {
		p := newPlain(t, small())
		for _, e := range l[:n] {
			p.do(e)
		}
		want := p.end()
		if n == len(l) && (want.Taken != 13 || want.Crashes != 4) {
			t.Errorf("%d are to be taken, of %d crashes", want.Taken, want.Crashes)
		}
		expect(t, fmt.Sprint(n, " events"), small(), l[:n], want)
	}
}

// All that a client takes in the scripts of these tests, and no more (P32.2).
func counts(t *testing.T, why string, r world.Report) {
	t.Helper()
	taken := 0
	for _, b := range r.Answers {
		if shows(b) {
			taken++
		}
	}
	if r.Taken != taken || r.Refused != 0 || r.Twice != 0 {
		t.Fatalf("%s: %d are taken, not %d; %d refused; %d twice", why, r.Taken, taken, r.Refused, r.Twice)
	}
}

// answersOf: what each event is to have.
func answersOf(t *testing.T, l []world.Event, want ...[]byte) world.Report {
	t.Helper()
	r, err := world.Run(small(), l)
	if err != api.OK || said(r.Answers) != said(want) {
		t.Fatalf("%v, %x\nnot\n%x", err, r.Answers, want)
	}
	counts(t, "a script", r)
	return r
}

func stateOf(t *testing.T, l ...world.Event) string {
	t.Helper()
	p := newPlain(t, small())
	for _, e := range l {
		p.do(e)
	}
	return string(p.end().State)
}

// The power stays off till a Crash, also over an Arm; behind the last event there is one more, that keeps nothing, and isn't counted (P32.1).
func TestPower(t *testing.T) {
	made := []byte{wire.Create, 0, 0, 0, 0, 0, 0, 0, 0, 0}
	off := []byte{byte(api.ErrDown)}
	begun := []world.Event{create("a", 1), arm(1), tick, look("a", "l", -1), of(wire.Standing, "a"), put("a", "l", "v"), bytes([]byte{0}), bytes(nil), tick, arm(0), arm(9), {}, tick}
	told := [][]byte{made, nil, off, {wire.Lookup, off[0]}, {wire.Standing, off[0]}, {wire.Put, off[0]}, {0, off[0]}, {0, off[0]}, off, nil, nil, nil, off}

	r := answersOf(t, begun, told...)
	if r.Crashes != 0 || string(r.State) != stateOf(t, create("a", 1)) {
		t.Errorf("off behind the last event: %d crashes, or another State", r.Crashes)
	}
	r = answersOf(t, slices.Concat(begun, []world.Event{crash()}), slices.Concat(told, [][]byte{nil})...)
	if r.Crashes != 1 || string(r.State) != stateOf(t, create("a", 1)) {
		t.Errorf("nothing is kept: %d crashes, or another State", r.Crashes)
	}
	r = answersOf(t, slices.Concat(begun, []world.Event{crash(true), tick, crash()}), slices.Concat(told, [][]byte{nil, {0}, nil})...)
	if r.Crashes != 2 || string(r.State) != stateOf(t, create("a", 1), tick, tick) {
		t.Errorf("the tick is kept: %d crashes, or another State", r.Crashes)
	}
	// What was armed ahead of a crash is forgotten by it.
	r = answersOf(t, []world.Event{create("a", 1), arm(1), crash(), tick, arm(2), tick, arm(0), tick, arm(2), arm(-3), tick, arm(1)}, made, nil, nil, []byte{0}, nil, []byte{0}, nil, []byte{0}, nil, nil, []byte{0}, nil)
	if r.Crashes != 1 || string(r.State) != stateOf(t, create("a", 1), tick, tick, tick, tick) {
		t.Errorf("forgotten: %d crashes, or another State", r.Crashes)
	}
	// It goes off at the second write, which is the second tick's, and in the very last event.
	r = answersOf(t, []world.Event{create("a", 1), arm(2), tick, tick}, made, nil, []byte{0}, off)
	if r.Crashes != 0 || string(r.State) != stateOf(t, create("a", 1), tick) {
		t.Errorf("in the last event: %d crashes, or another State", r.Crashes)
	}
}

// The first 500 events count, whatever they are, and none behind them (P32.1).
func TestFirstEvents(t *testing.T) {
	// so many events, of which the last ones are these
	many := func(n int, last ...world.Event) []world.Event {
		return append(make([]world.Event, n-len(last)), last...)
	}
	a, b := create("a", 1), create("b", 1)
	for i, x := range []struct {
		l       []world.Event
		crashes int
		state   string
	}{
		{many(499, a, b), 0, stateOf(t, a, b)},
		{many(500, a, b), 0, stateOf(t, a, b)},
		{many(501, a, b), 0, stateOf(t, a)},
		{many(502, a, b, tick, crash()), 0, stateOf(t, a, b)},
		{many(501, a, b, crash(), tick), 1, stateOf(t, a, b)},
		{many(500, a, b, arm(1), tick, crash(true)), 1, stateOf(t, a, b, tick)},
		// The power is off behind the 500th event: the crash that would keep it is none any more.
		{many(501, a, b, arm(1), tick, crash(true)), 0, stateOf(t, a, b)},
		{append(many(500, a, b), make([]world.Event, 3000)...), 0, stateOf(t, a, b)},
		{slices.Repeat([]world.Event{crash()}, 501), 500, stateOf(t)},
	} {
		r, err := world.Run(small(), x.l)
		if err != api.OK || len(r.Answers) != min(len(x.l), 500) || r.Crashes != x.crashes || string(r.State) != x.state {
			t.Errorf("%d: %v, %d answers of %d events, %d crashes, or another State", i, err, len(r.Answers), len(x.l), r.Crashes)
		}
	}
}

// A Tick that isn't done: its error is the answer, in one byte (P32.1).
func TestTicksThatAreRefused(t *testing.T) {
	late, full := small(), small()
	late.Now = math.MaxInt - 1
	full.Common = 1
	for _, x := range []struct {
		c    keep.Config
		want api.Errno
	}{{late, api.ErrClock}, {full, api.ErrFull}} {
		r, err := world.Run(x.c, []world.Event{tick, tick, create("a", 1)})
		if err != api.OK || said(r.Answers[:2]) != said([][]byte{{0}, {byte(x.want)}}) {
			t.Errorf("%+v: %v, %x", x.c, err, r.Answers)
		}
	}
}
