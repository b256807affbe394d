package tenant_test

import (
	"bytes"
	"math/rand"
	"slices"
	"testing"

	"custumal/api"
	"custumal/direct"
	"custumal/tenant"
)

// A roll is a table told of apart: what became of each id, in the order in which it did.
type roll struct {
	places int
	all    map[string]*guest
}

type guest struct {
	state, place int
	directory    *direct.Directory
}

func (r *roll) state(id string) int {
	if g := r.all[id]; g != nil {
		return g.state
	}
	return tenant.Nobody
}

// taken: by whom a place is.
func (r *roll) taken(place int) bool {
	for _, g := range r.all {
		if g.state != tenant.Gone && g.place == place {
			return true
		}
	}
	return false
}

func (r *roll) least() int {
	for place := range r.places {
		if !r.taken(place) {
			return place
		}
	}
	return -1
}

func (r *roll) enter(id string, d *direct.Directory) (int, api.Errno) {
	switch {
	case r.state(id) == tenant.Gone:
		return 0, api.ErrGone
	case r.state(id) != tenant.Nobody:
		return 0, api.ErrThere
	case r.least() < 0:
		return 0, api.ErrFull
	}
	r.all[id] = &guest{tenant.Live, r.least(), d}
	return r.all[id].place, api.OK
}

func (r *roll) settle(id string, state, place int, d *direct.Directory) api.Errno {
	switch {
	case state != tenant.Gone && place >= r.places:
		return api.ErrArg
	case r.state(id) != tenant.Nobody:
		return api.ErrThere
	case state != tenant.Gone && r.taken(place):
		return api.ErrFull
	}
	r.all[id] = &guest{state, place, d}
	return api.OK
}

// missing: why nothing can be done with it, if so.
func (r *roll) missing(id string) api.Errno {
	switch r.state(id) {
	case tenant.Nobody:
		return api.ErrMiss
	case tenant.Gone:
		return api.ErrGone
	}
	return api.OK
}

func (r *roll) turn(id string, from, to int) api.Errno {
	if err := r.missing(id); err != api.OK {
		return err
	}
	if r.all[id].state != from {
		return api.ErrHeld
	}
	r.all[id].state = to
	return api.OK
}

func (r *roll) remove(id string) (int, api.Errno) {
	if err := r.missing(id); err != api.OK {
		return 0, err
	}
	r.all[id].state = tenant.Gone
	return r.all[id].place, api.OK
}

func (r *roll) ids(state int) (ids []string) {
	for id, g := range r.all {
		if g.state == state {
			ids = append(ids, id)
		}
	}
	slices.Sort(ids)
	return ids
}

// expectRoll: the table tells of all what the roll does; and no two have one place (P22.2).
func expectRoll(t *testing.T, table *tenant.Table, r *roll, ids []string) {
	t.Helper()
	places := map[int]string{}
	for _, id := range ids {
		switch state := r.state(id); state {
		case tenant.Nobody, tenant.Gone:
			if got := table.State([]byte(id)); got != state {
				t.Errorf("State of %q: %d, not %d", id, got, state)
			}
		default:
			g := r.all[id]
			expectSeated(t, table, id, state, g.place, g.directory)
			at, _ := table.Place([]byte(id))
			if other, there := places[at]; there {
				t.Errorf("%q and %q are both at %d", id, other, at)
			}
			places[at] = id
		}
	}
	expectRoom(t, table, r.places-len(places))
	for state := range 5 {
		expectIds(t, table, state, r.ids(state)...)
	}
}

// Told by chance, a table answers as is worked out apart (P22.1, P22.2).
func TestByChance(t *testing.T) {
	for seed := range int64(150) {
		c := rand.New(rand.NewSource(seed))
		r := &roll{1 + c.Intn(8), map[string]*guest{}}
		table := open(t, r.places)
		var ids []string
		for i := range 24 {
			ids = append(ids, string(rune('a'+i)))
		}
		for range 120 {
			id := ids[c.Intn(1+c.Intn(len(ids)))]
			switch c.Intn(6) {
			case 0:
				want, wantErr := r.enter(id, nil)
				got, err := table.Create([]byte(id), keys, limits)
				expectPlace(t, "Create", got, err, want, wantErr)
				if err == api.OK {
					r.all[id].directory, _ = table.Get([]byte(id), true)
				}
			case 1:
				d := directory(t, id)
				want, wantErr := r.enter(id, d)
				expectImport(t, table, id, d, want, wantErr)
			case 2:
				state, place, d := 1+c.Intn(3), c.Intn(9), directory(t, id)
				want := r.settle(id, state, place, d)
				expectErr(t, "Settle", table.Settle([]byte(id), state, place, d), want)
			case 3:
				expectErr(t, "Hold", table.Hold([]byte(id)), r.turn(id, tenant.Live, tenant.Held))
			case 4:
				expectErr(t, "Free", table.Free([]byte(id)), r.turn(id, tenant.Held, tenant.Live))
			case 5:
				want, wantErr := r.remove(id)
				expectDelete(t, table, id, want, wantErr)
			}
			expectRoll(t, table, r, ids)
		}
	}
}

// What is handed in is neither changed, its spare room neither, nor kept; what was handed in is still told when it is spoilt (P22.3).
func TestArgumentsAreLeftAlone(t *testing.T) {
	table := open(t, 4)
	d := directory(t, "d")
	names := []string{"created", "imported", "settled", "gone"}
	var ids, were [][]byte
	for _, name := range names {
		id := append([]byte(name), "spare room"...)[:len(name)]
		ids, were = append(ids, id), append(were, slices.Clone(id[:cap(id)]))
	}
	table.Create(ids[0], keys, limits)
	table.Import(ids[1], d)
	table.Settle(ids[2], tenant.Held, 3, d)
	table.Settle(ids[3], tenant.Gone, 3, nil)
	for _, id := range ids {
		table.Hold(id)
		table.Free(id)
		table.State(id)
		table.Place(id)
		table.Get(id, true)
	}
	for i, id := range ids {
		if !bytes.Equal(id[:cap(id)], were[i]) {
			t.Errorf("an id is changed: %q", id[:cap(id)])
		}
		for j := range id[:cap(id)] {
			id[:cap(id)][j] = 'z'
		}
	}
	created, _ := table.Get([]byte("created"), true)
	expectSeated(t, table, "created", tenant.Live, 0, created)
	if string(created.Id()) != "created" {
		t.Errorf("the directory is of %q", created.Id())
	}
	expectSeated(t, table, "imported", tenant.Live, 1, d)
	expectSeated(t, table, "settled", tenant.Live, 3, d)
	expectNone(t, table, "gone", tenant.Gone, api.ErrGone)
	expectIds(t, table, tenant.Live, "created", "imported", "settled")
	id := append([]byte("created"), "spare room"...)[:7]
	place, err := table.Delete(id)
	expectPlace(t, "Delete", place, err, 0, api.OK)
	clear(id)
	expectIds(t, table, tenant.Gone, "created", "gone")
	if d.Epoch() != 0 || d.Waiting() != 0 || d.Keys() != keys {
		t.Error("the directory is changed")
	}
}

// Ids that are told are new memory (rule 4).
func TestAnswersAreNew(t *testing.T) {
	table := open(t, 8)
	for i, id := range []string{"d", "b", "f", "a", "e", "c"} {
		expectErr(t, "Settle", table.Settle([]byte(id), 1+i%3, i, directory(t, id)), api.OK)
	}
	for range 2 {
		for state := tenant.Live; state <= tenant.Gone; state++ {
			ids := table.Ids(state)
			ids = ids[:cap(ids)]
			for i := range ids {
				ids[i] = "spoilt"
			}
		}
		expectIds(t, table, tenant.Live, "a", "d")
		expectIds(t, table, tenant.Held, "b", "e")
		expectIds(t, table, tenant.Gone, "c", "f")
	}
	ids := append(table.Ids(tenant.Gone), "spoilt")
	expectErr(t, "Settle", table.Settle([]byte("g"), tenant.Gone, 0, nil), api.OK)
	if !slices.Equal(ids, []string{"c", "f", "spoilt"}) {
		t.Error("an answer is changed behind it")
	}
}
