package bundle_test

import (
	"encoding/binary"
	"fmt"
	"math"
	"math/rand"
	"slices"
	"testing"

	"custumal/api"
	"custumal/bundle"
	"custumal/direct"
)

// A story is a tenant told of by lists: what was put in each epoch from 1 on, and what waits. Its roots and its link are those of a directory to which all that was put; or false ones.
type story struct {
	first       int
	id          string
	keys        direct.Keys
	limits      direct.Limits
	period, age int
	held        byte
	last        int
	made        [][]direct.Pair
	roots       [][32]byte
	waits       []direct.Pair
	link        [32]byte
}

var (
	someKeys = direct.Keys{Vrf: [32]byte{1, 31: 2}, Bind: [32]byte{3, 31: 4}}
	most     = direct.Limits{Labels: 64, Pending: 16, Epochs: 32}
	few      = direct.Limits{Labels: 3, Pending: 4, Epochs: 5}
)

func pair(label, value string) direct.Pair {
	return direct.Pair{Label: []byte(label), Value: []byte(value)}
}

// told: a tenant of a story, and its parcel.
func told(t *testing.T, id string, limits direct.Limits, waits []direct.Pair, made ...[]direct.Pair) (story, bundle.Parcel) {
	t.Helper()
	s := story{first: 1, id: id, keys: someKeys, limits: limits, period: 3, age: 4, last: len(made), made: made, waits: waits}
	d, err := direct.New([]byte(id), someKeys, limits)
	if err != api.OK {
		t.Fatal(err)
	}
	put := func(l []direct.Pair) {
		for _, p := range l {
			if err := d.Put(p.Label, p.Value); err != api.OK {
				t.Fatal(err)
			}
		}
	}
	for _, l := range made {
		put(l)
		if _, err := d.Seal(); err != api.OK {
			t.Fatal(err)
		}
	}
	put(waits)
	marks, _ := d.Audit(0, len(made))
	for _, m := range marks[1:] {
		s.roots = append(s.roots, m.Root)
	}
	s.link = marks[len(made)].Link
	return s, bundle.Parcel{Directory: d, Period: 3, Age: 4}
}

func num(n int) []byte { return binary.BigEndian.AppendUint64(nil, uint64(n)) }

func text(b []byte) []byte { return append(binary.BigEndian.AppendUint16(nil, uint16(len(b))), b...) }

// parts: a story's bytes, part by part, each by a name.
func (s story) parts() (names []string, parts [][]byte) {
	add := func(name string, b []byte) { names, parts = append(names, name), append(parts, b) }
	pairs := func(name string, l []direct.Pair) {
		add(name+" count", num(len(l)))
		for _, p := range l {
			add(name+" label", text(p.Label))
			add(name+" value", text(p.Value))
		}
	}
	add("first", []byte{byte(s.first)})
	add("id", text([]byte(s.id)))
	add("vrf", s.keys.Vrf[:])
	add("bind", s.keys.Bind[:])
	add("labels", num(s.limits.Labels))
	add("pending", num(s.limits.Pending))
	add("epochs", num(s.limits.Epochs))
	add("period", num(s.period))
	add("age", num(s.age))
	add("held", []byte{s.held})
	add("last", num(s.last))
	for i, l := range s.made {
		pairs("made", l)
		add("root", s.roots[i][:])
	}
	pairs("waits", s.waits)
	add("link", s.link[:])
	return names, parts
}

func (s story) bytes() []byte {
	_, parts := s.parts()
	return slices.Concat(parts...)
}

// stories: tenants of many kinds, with their parcels.
func stories(t *testing.T) (all []story, parcels []bundle.Parcel) {
	t.Helper()
	add := func(s story, p bundle.Parcel) { all, parcels = append(all, s), append(parcels, p) }
	a, b, c := pair("a", "1"), pair("b", ""), pair("a", "2")
	long := pair("a label of 32 bytes, just as many", "a value of 64 bytes, which is just as long as a value may ever be")
	long.Label, long.Value = long.Label[:32], append(long.Value, "....."...)[:64]
	add(told(t, "a", few, nil))
	add(told(t, "sixteen bytes id", few, []direct.Pair{a, b, c}))
	add(told(t, "a", few, nil, nil))
	add(told(t, "a", few, nil, []direct.Pair{a}))
	add(told(t, "\x00", direct.Limits{Labels: 1, Pending: 1, Epochs: 1}, []direct.Pair{c}, []direct.Pair{a}))
	add(told(t, "b", few, []direct.Pair{pair("c", "waits")}, []direct.Pair{a, b}, nil, []direct.Pair{c, c, c, c}))
	add(told(t, "c", most, []direct.Pair{long, long, a}, []direct.Pair{long, pair("\x00", "\x00")}, []direct.Pair{b, long}))
	for _, age := range []int{0, 1, math.MaxInt - 1, math.MaxInt} {
		for _, period := range []int{1, 2, 999, 1000} {
			s, p := all[age%len(all)], parcels[age%len(all)]
			s.period, p.Period, s.age, p.Age = period, period, age, age
			if period%2 == 0 {
				s.held, p.Held = 1, true
			}
			add(s, p)
		}
	}
	return all, parcels
}

// fullest: a tenant that has all it may have, with texts as long as may be.
func fullest(t *testing.T) (story, bundle.Parcel) {
	t.Helper()
	many := func(seed int) (l []direct.Pair) {
		for i := range 16 {
			label := fmt.Sprintf("label %026d", (seed*16+i)%64)
			l = append(l, pair(label, fmt.Sprintf("value %058d", seed)))
		}
		return l
	}
	var made [][]direct.Pair
	for e := range 32 {
		made = append(made, many(e))
	}
	return told(t, "sixteen bytes id", most, many(32), made...)
}

// said: as text, in which nil and empty lists are one.
func said(parts ...any) string { return fmt.Sprintf("%+x", parts) }

// tells: all that a directory tells of labels.
func tells(d *direct.Directory, labels ...string) string {
	all := []any{d.Id(), d.Keys(), d.Limits(), d.Public(), d.Epoch(), d.Waiting(), d.Labels(), d.Waits()}
	for e := -1; e <= d.Epoch()+1; e++ {
		made, err := d.Made(e)
		marks, other := d.Audit(0, e)
		all = append(all, made, err, marks, other)
	}
	for _, label := range labels {
		entries, err := d.History([]byte(label))
		all = append(all, entries, err)
		for e := -1; e <= d.Epoch(); e++ {
			found, err := d.Lookup([]byte(label), e)
			all = append(all, found, err)
		}
	}
	return said(all...)
}

// does: by chance, the same to both; what they answer has to be the same.
func does(t *testing.T, c *rand.Rand, d, e *direct.Directory, labels []string) {
	t.Helper()
	if c.Intn(4) == 0 {
		n, err := d.Seal()
		m, other := e.Seal()
		if n != m || err != other {
			t.Errorf("Seal: %d, %v and %d, %v", n, err, m, other)
		}
		return
	}
	label, value := []byte(labels[c.Intn(len(labels))]), fmt.Append(nil, c.Intn(100))
	if err, other := d.Put(label, value), e.Put(label, value); err != other {
		t.Errorf("Put(%q): %v and %v", label, err, other)
	}
}
