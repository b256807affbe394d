package rules_test

import (
	"math"
	"math/rand"
	"strings"
	"testing"

	"custumal/api"
	"custumal/direct"
	"custumal/disk"
	"custumal/keep"
	"custumal/shell"
	"custumal/survey"
	"custumal/wire"
	"custumal/world"
)

// oddEvents: of all kinds, with bytes of all kinds, numbers far out, and more of them than count.
func oddEvents(numbers []int) (l []world.Event) {
	for _, n := range numbers {
		for kind := -1; kind <= 6; kind++ {
			l = append(l, world.Event{Kind: kind, N: n, Keep: make([]bool, 1+len(l)%9)}, world.Event{Kind: kind + n, N: n})
		}
		for kind := -1; kind <= 14; kind++ {
			for _, text := range [][]byte{nil, []byte("a"), make([]byte, 16)} {
				r := wire.Request{Kind: kind, Id: text, Label: []byte("l"), From: n, To: n, Period: 1, Limits: direct.Limits{Labels: 1, Pending: 2, Epochs: 9}}
				b, _ := wire.Ask(r)
				l = append(l, world.Event{Kind: world.Ask, Bytes: b, N: n}, world.Event{Kind: world.Ask, Bytes: append([]byte{byte(kind)}, b...)}, world.Event{Kind: world.Tick + kind%2})
			}
		}
	}
	return l
}

// oddScripts: lines of all that lines are made of, in any order, and bytes that are none.
func oddScripts() (l []string) {
	parts := []string{"create", "hold", "free", "delete", "put", "tick", "look", "stand", "history", "audit", "growth", "crash", " ", " ", " ", " ", "\n", "\n", "\n", "#", "0", "1", "9", "999999999", "a", "b", "\r", "\x00", "\xff", ""}
	chance := rand.New(rand.NewSource(9))
	for range 60 {
		var b strings.Builder
		for range 400 {
			b.WriteString(parts[chance.Intn(len(parts))])
			if chance.Intn(3) == 0 {
				b.WriteByte(byte(chance.Intn(256)))
			}
		}
		l = append(l, b.String())
	}
	for _, part := range parts {
		l = append(l, part, strings.Repeat(part, 3000), strings.Repeat(part+" ", 300), strings.Repeat(part+"\n", 300))
	}
	return l
}

// Each call of layers 32 to 34 ends without a panic at nil objects, zero values, configs that are none, and scripts and rows of all kinds (P1).
func TestNoCallOfScriptsPanics(t *testing.T) {
	numbers := []int{math.MinInt, -1, 0, 1, 2, 7, 8, 9, 8191, 8192, 1 << 32, math.MaxInt}
	events := oddEvents(numbers)
	for from := 0; from < len(events); from += 300 {
		for _, c := range []keep.Config{{Places: 2, Common: 30, Each: 3}, {Places: 1, Now: math.MaxInt - 2, Common: 1, Each: 1}, {Seed: [32]byte{1}, Places: 8, Common: 200, Each: 9}} {
			world.Run(c, events[from:])
		}
	}
	whole, _ := stored(t, keep.Config{Seed: [32]byte{3}, Places: 2, Common: 12, Each: 3})
	off, _ := disk.New(400)
	off.Arm(1)
	off.Write(0, disk.Block{1})
	for _, n := range numbers {
		for _, m := range numbers {
			for _, c := range []keep.Config{{Places: n, Common: m, Each: 1}, {Places: n, Common: 1, Each: m}, {Places: 1, Now: n, Common: 2, Each: m}, {Places: n, Now: m, Common: n, Each: m}} {
				if keep.Blocks(c) < 100 {
					world.Run(c, events[:20])
				}
				for _, d := range []*disk.Disk{nil, {}, off, whole} {
					survey.Rows(d, c)
				}
			}
			l := []survey.Row{{Block: n, Place: m, Record: n}, {Block: n + 1, Place: m}, {Block: n, Place: n, Kind: m, Record: m}, {Block: m, Place: n, Kind: 1, Record: m}, {Kind: 2, Record: n}}
			survey.Sum(l, n)
			survey.Sum(nil, n)
			survey.Foul(l)
			survey.Text(l)
		}
	}
	world.Run(keep.Config{}, nil)
	survey.Foul(nil)
	survey.Text(nil)
	for _, script := range oddScripts() {
		shell.Run(script)
	}
	for round := range 60 {
		surveyDamaged(t, round)
	}
}

// surveyDamaged: of a disk on which some bytes are others.
func surveyDamaged(t *testing.T, round int) {
	t.Helper()
	c := keep.Config{Seed: [32]byte{3}, Places: 2, Common: 12, Each: 3}
	d, _ := stored(t, c)
	chance := rand.New(rand.NewSource(int64(round)))
	for range 1 + chance.Intn(9) {
		at := chance.Intn(18)
		b, _ := d.Read(at)
		b[chance.Intn(api.Block)] = byte(chance.Intn(256) >> chance.Intn(8))
		d.Write(at, b)
	}
	l, err := survey.Rows(d, c)
	if err != api.OK || len(l) != 18 {
		t.Errorf("round %d: %v, %d rows", round, err, len(l))
	}
	survey.Foul(l)
	survey.Text(l)
}

// tellOfScripts: what comes of these sums as seed, ids, labels and values, in events and in lines; and what stands on a disk then.
func tellOfScripts(sums ...[32]byte) (all [][]byte) {
	var events []world.Event
	for _, kind := range []int{wire.Create, wire.Put, 0, wire.Lookup, wire.Lookup, wire.Delete, 0, wire.Standing} {
		for _, sum := range sums {
			r := wire.Request{Kind: kind, Id: sum[:api.MaxId], Keys: direct.Keys{Vrf: sum}, Limits: direct.Limits{Labels: 1, Pending: 1, Epochs: 1}}
			r.Period, r.Label, r.Value, r.From = 1, sum[:], sum[:], -1
			b, _ := wire.Ask(r)
			events = append(events, world.Event{Kind: world.Ask, Bytes: b})
		}
		events = append(events, world.Event{Kind: world.Tick}, world.Event{Kind: world.Crash})
	}
	c := keep.Config{Seed: sums[0], Places: 2, Common: 30, Each: 5}
	r, _ := world.Run(c, events)
	d, _ := disk.New(keep.Blocks(c))
	s, _ := keep.Format(d, c)
	for _, e := range events[:5] {
		s.Do(e.Bytes)
	}
	l, _ := survey.Rows(d, c)
	lines := shell.Run("create a 1 1 1 1\nput a x " + string(sums[1][:9]) + "\ntick\nlook a x\ncrash\nhistory a x")
	all = append(r.Answers, r.State, []byte{byte(r.Taken), byte(r.Refused), byte(r.Crashes), byte(r.Twice)})
	return append(all, []byte(survey.Text(l)), []byte(lines))
}
