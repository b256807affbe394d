package survey_test

import (
	"fmt"
	"math/rand"
	"slices"
	"strings"
	"testing"

	"custumal/api"
	"custumal/bundle"
	"custumal/direct"
	"custumal/disk"
	"custumal/host"
	"custumal/keep"
	"custumal/survey"
	"custumal/tenant"
	"custumal/wire"
)

var wide = direct.Limits{Labels: 9, Pending: 9, Epochs: 32}

func create(id string) wire.Request {
	return wire.Request{Kind: wire.Create, Id: []byte(id), Limits: wide, Period: 1}
}

func of(kind int, id string) wire.Request { return wire.Request{Kind: kind, Id: []byte(id)} }

// put: its bytes are seven more than those of its texts.
func put(id, label, value string) wire.Request {
	return wire.Request{Kind: wire.Put, Id: []byte(id), Label: []byte(label), Value: []byte(value)}
}

// brought: the import of a tenant whose bundle takes more than one block.
func brought(id string, epochs int) wire.Request {
	d, _ := direct.New([]byte(id), direct.Keys{Vrf: [32]byte{id[0]}}, wide)
	for range epochs {
		d.Put([]byte("l"), []byte(id))
		d.Seal()
	}
	b, _ := bundle.Pack(bundle.Parcel{Directory: d, Period: 1})
	return wire.Request{Kind: wire.Import, Bundle: b}
}

// do: one request, or a tick; its error.
func do(s *keep.Store, r wire.Request) api.Errno {
	if r.Kind == 0 {
		return s.Tick()
	}
	b, err := wire.Ask(r)
	if err != api.OK {
		return err
	}
	a, err := wire.Told(s.Do(b))
	if err != api.OK {
		return err
	}
	return a.Err
}

// nobodys: the places that nobody has.
func nobodys(s *keep.Store, c keep.Config) (places []int) {
	for place := range c.Places {
		if !slices.ContainsFunc(s.Host().Parts().Tenants, func(p host.Part) bool { return p.State != tenant.Gone && p.Place == place }) {
			places = append(places, place)
		}
	}
	return places
}

// liveOf: the ids of those that are there.
func liveOf(s *keep.Store) (ids []string) {
	for _, p := range s.Host().Parts().Tenants {
		if p.State != tenant.Gone {
			ids = append(ids, string(p.Id))
		}
	}
	return ids
}

// swept: all blocks of places that nobody has are Empty (P34.2).
func swept(t *testing.T, why string, d *disk.Disk, c keep.Config, s *keep.Store) {
	t.Helper()
	l := expect(t, why, d, c)
	foul := survey.Foul(l)
	for _, place := range nobodys(s, c) {
		if slices.Contains(foul, place) || survey.Sum(l, place) != (survey.Totals{Empty: c.Each}) {
			t.Fatalf("%s: of place %d, that nobody has, something is left:\n%s", why, place, survey.Text(l))
		}
	}
}

// A store's life: which block has which record, behind each step (P34.1, P34.2).
func TestLife(t *testing.T) {
	c := keep.Config{Seed: [32]byte{1}, Places: 2, Common: 14, Each: 9}
	d, s := formatted(t, c)
	long := strings.Repeat("i", 16)
	bundle := brought("b", 0)
	if n := len(bundle.Bundle) + 3; n <= 117 || n > 234 {
		t.Fatalf("the bundle has %d bytes", n)
	}
	common, a, b := strings.Repeat("-", 14), strings.Repeat("-", 9), strings.Repeat("-", 9)
	for i, x := range []struct {
		r            wire.Request
		common, a, b string // how each begins, behind the step
	}{
		{create(long), "H0", "", ""},
		{put(long, strings.Repeat("l", 32), strings.Repeat("v", 62)), "H0H1", "H0", ""},
		{put(long, strings.Repeat("l", 32), strings.Repeat("v", 63)), "H0H1H2", "H0H1R1", ""},
		{wire.Request{}, "H0H1H2H3", "H0H1R1", ""},
		{bundle, "H0H1H2H3H4", "H0H1R1", "H0R0"},
		{put("b", "l", "v"), "H0H1H2H3H4H5", "H0H1R1", "H0R0H1"},
		{of(wire.Hold, "b"), "H0H1H2H3H4H5H6", "H0H1R1", "H0R0H1"},
		{of(wire.Delete, long), "H0H1H2H3H4H5H6H7", "", "H0R0H1"},
		{create("c"), "H0H1H2H3H4H5H6H7H8", "", "H0R0H1"},
		{put("c", "l", "v"), "H0H1H2H3H4H5H6H7H8H9", "H0", "H0R0H1"},
		{of(wire.Delete, "b"), "H0H1H2H3H4H5H6H7H8H9H0", "H0", ""},
		{of(wire.Delete, "c"), "H0H1H2H3H4H5H6H7H8H9H0H1", "", ""},
	} {
		if err := do(s, x.r); err != api.OK {
			t.Fatalf("%d: %v", i, err)
		}
		// Of records each block has a letter and a digit.
		want := x.common + common[len(x.common)/2:] + x.a + a[len(x.a)/2:] + x.b + b[len(x.b)/2:]
		if got := kinds(expect(t, fmt.Sprint("step ", i), d, c)); got != want {
			t.Fatalf("%d: %s, not %s", i, got, want)
		}
		swept(t, fmt.Sprint("step ", i), d, c, s)
	}
}

// A text of a store in the midst of its life (P34.1).
func TestTextOfStore(t *testing.T) {
	c := keep.Config{Seed: [32]byte{1}, Places: 3, Common: 9, Each: 4}
	d, s := formatted(t, c)
	for _, r := range []wire.Request{create("a"), create(strings.Repeat("i", 16)), {}, put(strings.Repeat("i", 16), strings.Repeat("l", 32), strings.Repeat("v", 64)), put("a", "l", "v")} {
		if err := do(s, r); err != api.OK {
			t.Fatal(err)
		}
	}
	d.Write(12, disk.Block{8})
	l, _ := survey.Rows(d, c)
	want := "0 common head 0\n1 common head 1\n2 common head 2\n3 common head 3\n4 common head 4\n5 common empty to 8\n" +
		"9 place0 head 0\n10 place0 empty to 11\n12 place0 stray\n13 place1 head 0\n14 place1 rest 0\n15 place1 empty to 16\n17 place2 empty to 20\n"
	if got := survey.Text(l); got != want {
		t.Errorf("%s\nnot\n%s", got, want)
	}
	if foul := survey.Foul(l); !slices.Equal(foul, []int{0, 1}) {
		t.Errorf("%v", foul)
	}
}

// Behind each Delete that was answered, and behind each Open, whatever a crash has taken of what was under way, nothing is left where nobody is (P34.2).
func TestSwept(t *testing.T) {
	t.Parallel()
	c := keep.Config{Seed: [32]byte{2}, Places: 2, Common: 30, Each: 9}
	life := []wire.Request{
		create("a"), put("a", strings.Repeat("l", 32), strings.Repeat("v", 64)), {}, brought("b", 4), put("b", "l", "v"), of(wire.Delete, "a"), brought("c", 3), {}, of(wire.Delete, "b"), of(wire.Delete, "c"),
	}
	left, deleted := 0, 0
	for n := 1; ; n++ {
		over := true
		for _, keeps := range [][]bool{nil, {true}, {false, true}, {true, true, true, true, true, true, true, true, true}, {true, false, true, false, true, false, true}} {
			d, s := formatted(t, c)
			d.Arm(n)
			for i, r := range life {
				if err := do(s, r); err != api.OK {
					break
				}
				if r.Kind == wire.Delete {
					deleted++
					swept(t, fmt.Sprintf("event %d, to be off at the write %d", i, n), d, c, s)
				}
			}
			over = over && !d.Down()
			d.Crash(keeps)
			before, _ := survey.Rows(d, c)
			s, err := keep.Open(d, c)
			if err != api.OK {
				t.Fatalf("off at the write %d: %v", n, err)
			}
			swept(t, fmt.Sprintf("off at the write %d, opened", n), d, c, s)
			for _, place := range nobodys(s, c) {
				if slices.Contains(survey.Foul(before), place) {
					left++ // there was something to sweep
				}
			}
			d.Crash(nil)
			swept(t, fmt.Sprintf("off at the write %d, opened, and another crash", n), d, c, s)
		}
		if over {
			break
		}
	}
	if left < 5 || deleted < 20 {
		t.Errorf("something was left %d times, and %d were deleted", left, deleted)
	}
}

// Lives by chance, with crashes in them (P34.2).
func TestSweptByChance(t *testing.T) {
	t.Parallel()
	deleted := 0
	for round := range 10 {
		c := rand.New(rand.NewSource(int64(round)))
		conf := keep.Config{Seed: [32]byte{byte(round)}, Places: 1 + round%3, Common: 150, Each: 8}
		d, s := formatted(t, conf)
		var live []string
		for n := range 100 {
			r, fresh, id := wire.Request{}, fmt.Sprint(n), "nobody"
			if len(live) > 0 {
				id = live[c.Intn(len(live))]
			}
			switch c.Intn(9) {
			case 0, 1:
				r = create(fresh)
			case 2:
				r = brought(fresh, c.Intn(5))
			case 3:
				r = of(wire.Delete, id)
			case 4:
			default:
				r = put(id, strings.Repeat("l", 1+c.Intn(32)), strings.Repeat("v", c.Intn(65)))
			}
			if c.Intn(5) == 0 {
				d.Arm(1 + c.Intn(5))
			}
			err := do(s, r)
			if err == api.OK && r.Kind == wire.Delete {
				deleted++
				swept(t, fmt.Sprintf("round %d", round), d, conf, s)
			}
			live = liveOf(s)
			if err != api.ErrDown {
				continue
			}
			d.Crash([]bool{c.Intn(2) > 0, c.Intn(2) > 0, c.Intn(2) > 0, c.Intn(2) > 0})
			if s, err = keep.Open(d, conf); err != api.OK {
				t.Fatalf("round %d: %v", round, err)
			}
			swept(t, fmt.Sprintf("round %d, opened", round), d, conf, s)
			live = liveOf(s)
		}
	}
	if deleted < 20 {
		t.Errorf("%d alone were deleted", deleted)
	}
}

// What is handed in isn't changed, nor its spare room, nor kept; what is answered is new memory (P34.3).
func TestMemory(t *testing.T) {
	c := small()
	d, s := formatted(t, c)
	for _, r := range []wire.Request{create("a"), put("a", "l", "v"), brought("b", 1)} {
		if err := do(s, r); err != api.OK {
			t.Fatal(err)
		}
	}
	first := expect(t, "a store", d, c)
	want := said(first)
	second, _ := survey.Rows(d, c)
	clear(first[:cap(first)])
	if third, _ := survey.Rows(d, c); said(second) != want || said(third) != want {
		t.Error("two lists share memory")
	}
	in := append(slices.Clone(second), survey.Row{Block: 77, Place: 7, Kind: 3}, survey.Row{Block: 5, Place: 4, Kind: 1})
	slices.Reverse(in)
	whole := said(in)
	rows := in[:len(in)-3]
	sum, foul, text := survey.Sum(rows, 0), survey.Foul(rows), survey.Text(rows)
	if said(in) != whole {
		t.Error("what was handed in is changed")
	}
	other := survey.Foul(rows)
	told := said(foul, text)
	clear(in)
	clear(other[:cap(other)])
	if said(foul, text) != told || sum != (survey.Totals{Empty: 4, Head: 1}) {
		t.Errorf("%+v; or what was handed in is kept", sum)
	}
	// A store goes on behind it as if nobody had looked.
	if err := do(s, put("a", "l", "w")); err != api.OK {
		t.Error(err)
	}
	if got := survey.Sum(expect(t, "a put more", d, c), 0); got != (survey.Totals{Empty: 3, Head: 2}) {
		t.Errorf("%+v", got)
	}
}
