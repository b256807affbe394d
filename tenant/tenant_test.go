package tenant_test

import (
	"math"
	"slices"
	"strings"
	"testing"

	"custumal/api"
	"custumal/direct"
	"custumal/tenant"
)

var (
	keys   = direct.Keys{Vrf: [32]byte{1}, Bind: [32]byte{2}}
	limits = direct.Limits{Labels: 3, Pending: 4, Epochs: 5}
)

func open(t *testing.T, places int) *tenant.Table {
	t.Helper()
	table, err := tenant.New(places)
	if err != api.OK || table == nil {
		t.Fatalf("New(%d): %v", places, err)
	}
	return table
}

func directory(t *testing.T, id string) *direct.Directory {
	t.Helper()
	d, err := direct.New([]byte(id), keys, limits)
	if err != api.OK {
		t.Fatal(err)
	}
	return d
}

// expectPlace: what a call that tells a place has to tell.
func expectPlace(t *testing.T, what string, place int, err api.Errno, wantPlace int, want api.Errno) {
	t.Helper()
	if place != wantPlace || err != want {
		t.Errorf("%s: %d, %v, not %d, %v", what, place, err, wantPlace, want)
	}
}

func expectCreate(t *testing.T, table *tenant.Table, id string, place int, want api.Errno) {
	t.Helper()
	got, err := table.Create([]byte(id), keys, limits)
	expectPlace(t, "Create "+id, got, err, place, want)
}

func expectImport(t *testing.T, table *tenant.Table, id string, d *direct.Directory, place int, want api.Errno) {
	t.Helper()
	got, err := table.Import([]byte(id), d)
	expectPlace(t, "Import "+id, got, err, place, want)
}

func expectDelete(t *testing.T, table *tenant.Table, id string, place int, want api.Errno) {
	t.Helper()
	got, err := table.Delete([]byte(id))
	expectPlace(t, "Delete "+id, got, err, place, want)
}

func expectErr(t *testing.T, what string, got, want api.Errno) {
	t.Helper()
	if got != want {
		t.Errorf("%s: %v, not %v", what, got, want)
	}
}

// expectSeated: it is of that state (Live or Held), at that place, with that directory.
func expectSeated(t *testing.T, table *tenant.Table, id string, state, place int, d *direct.Directory) {
	t.Helper()
	if got := table.State([]byte(id)); got != state {
		t.Errorf("State of %q: %d, not %d", id, got, state)
	}
	at, err := table.Place([]byte(id))
	expectPlace(t, "Place of "+id, at, err, place, api.OK)
	if got, err := table.Get([]byte(id), true); got != d || err != api.OK {
		t.Errorf("Get of %q: %p, %v", id, got, err)
	}
	got, err := table.Get([]byte(id), false)
	if state == tenant.Held && (got != nil || err != api.ErrHeld) || state == tenant.Live && (got != d || err != api.OK) {
		t.Errorf("Get of %q, not held: %p, %v", id, got, err)
	}
}

// expectNone: it has neither place nor directory: it is Nobody (ErrMiss), or Gone.
func expectNone(t *testing.T, table *tenant.Table, id string, state int, want api.Errno) {
	t.Helper()
	if got := table.State([]byte(id)); got != state {
		t.Errorf("State of %q: %d, not %d", id, got, state)
	}
	at, err := table.Place([]byte(id))
	expectPlace(t, "Place of "+id, at, err, 0, want)
	for _, held := range []bool{false, true} {
		if got, err := table.Get([]byte(id), held); got != nil || err != want {
			t.Errorf("Get of %q: %p, %v", id, got, err)
		}
	}
	expectErr(t, "Hold "+id, table.Hold([]byte(id)), want)
	expectErr(t, "Free "+id, table.Free([]byte(id)), want)
	expectDelete(t, table, id, 0, want)
}

func expectIds(t *testing.T, table *tenant.Table, state int, want ...string) {
	t.Helper()
	if got := table.Ids(state); !slices.Equal(got, want) {
		t.Errorf("Ids(%d): %q, not %q", state, got, want)
	}
}

func expectRoom(t *testing.T, table *tenant.Table, want int) {
	t.Helper()
	if got := table.Room(); got != want {
		t.Errorf("Room: %d, not %d", got, want)
	}
}

// The chapter's example (P22.1).
func TestExample(t *testing.T) {
	table := open(t, 1)
	expectCreate(t, table, "a", 0, api.OK)
	expectCreate(t, table, "b", 0, api.ErrFull)
	expectDelete(t, table, "a", 0, api.OK)
	expectCreate(t, table, "a", 0, api.ErrGone)
	expectCreate(t, table, "b", 0, api.OK)
}

// The states' numbers (P22.1).
func TestStates(t *testing.T) {
	if tenant.Nobody != 0 || tenant.Live != 1 || tenant.Held != 2 || tenant.Gone != 3 {
		t.Error("a state has another number")
	}
}

// There are 1 to 8 places; else there is no table (P22.1).
func TestNew(t *testing.T) {
	for _, places := range []int{math.MinInt, -1, 0, 1, 2, 7, 8, 9, 16, 256, 257, 1<<32 + 1, math.MaxInt} {
		table, err := tenant.New(places)
		if good := places >= 1 && places <= 8; (table != nil) != good || good && err != api.OK || !good && err != api.ErrArg {
			t.Errorf("New(%d): %v", places, err)
		}
		if table != nil {
			expectRoom(t, table, places)
			expectNone(t, table, "a", tenant.Nobody, api.ErrMiss)
			for state := range 4 {
				expectIds(t, table, state)
			}
		}
	}
}

// As many tenants as there are places, from place 0 on, and not one more; a place that gets free is taken again, the least one first (P22.1).
func TestPlaces(t *testing.T) {
	for places := 1; places <= 8; places++ {
		table := open(t, places)
		for place := range places {
			expectRoom(t, table, places-place)
			expectCreate(t, table, string(rune('a'+place)), place, api.OK)
		}
		expectRoom(t, table, 0)
		expectCreate(t, table, "z", 0, api.ErrFull)
		expectImport(t, table, "z", directory(t, "z"), 0, api.ErrFull)
		expectNone(t, table, "z", tenant.Nobody, api.ErrMiss)
		for place := places - 1; place >= 0; place-- {
			expectDelete(t, table, string(rune('a'+place)), place, api.OK)
			expectRoom(t, table, places-place)
		}
		for place := range places {
			expectCreate(t, table, string(rune('A'+place)), place, api.OK)
		}
		expectCreate(t, table, "z", 0, api.ErrFull)
		if places > 2 {
			expectDelete(t, table, "C", 2, api.OK)
			expectDelete(t, table, "B", 1, api.OK)
			expectRoom(t, table, 2)
			d := directory(t, "x")
			expectImport(t, table, "x", d, 1, api.OK)
			expectCreate(t, table, "y", 2, api.OK)
			expectSeated(t, table, "x", tenant.Live, 1, d)
		}
	}
}

// Who is created has a new directory, as direct.New's (P22.1).
func TestCreatedDirectory(t *testing.T) {
	table := open(t, 2)
	expectCreate(t, table, "sixteen bytes id", 0, api.OK)
	d, err := table.Get([]byte("sixteen bytes id"), false)
	if err != api.OK || d == nil || string(d.Id()) != "sixteen bytes id" || d.Keys() != keys || d.Limits() != limits || d.Epoch() != 0 || d.Labels() != 0 {
		t.Errorf("%v, %v", d, err)
	}
	expectErr(t, "Put", d.Put([]byte("a"), nil), api.OK)
	expectSeated(t, table, "sixteen bytes id", tenant.Live, 0, d)
	if again, _ := table.Get([]byte("sixteen bytes id"), true); again.Waiting() != 1 {
		t.Error("another directory is told")
	}
}

// An id has 1 to 16 bytes, of all kinds (P22.1).
func TestIds(t *testing.T) {
	d := directory(t, "a")
	for size := range 20 {
		for _, id := range []string{strings.Repeat("i", size), strings.Repeat("\x00", size), strings.Repeat("\xff", size)} {
			table, want := open(t, 3), api.OK
			if size < 1 || size > 16 {
				want = api.ErrArg
			}
			expectCreate(t, table, id, 0, want)
			table = open(t, 3)
			expectImport(t, table, id, d, 0, want)
			for state := tenant.Live; state <= tenant.Gone; state++ {
				table = open(t, 3)
				expectErr(t, "Settle", table.Settle([]byte(id), state, 2, d), want)
				if want != api.OK {
					expectNone(t, table, id, tenant.Nobody, api.ErrMiss)
					expectRoom(t, table, 3)
				}
			}
		}
	}
	table := open(t, 3)
	for _, id := range []string{strings.Repeat("i", 65536), strings.Repeat("i", 256+1), strings.Repeat("i", 65536+1)} {
		expectCreate(t, table, id, 0, api.ErrArg)
		expectImport(t, table, id, d, 0, api.ErrArg)
		expectErr(t, "Settle", table.Settle([]byte(id), tenant.Gone, 0, nil), api.ErrArg)
		expectNone(t, table, id, tenant.Nobody, api.ErrMiss)
	}
	// Ids that are much alike are others all the same.
	for i, id := range []string{"a", "a\x00", "A"} {
		expectCreate(t, table, id, i, api.OK)
	}
}

// Create's refusals, in their order: direct.New's, ErrThere, ErrGone, ErrFull (P22.1).
func TestRefusalsOfCreate(t *testing.T) {
	table := open(t, 2)
	expectCreate(t, table, "live", 0, api.OK)
	expectCreate(t, table, "gone", 1, api.OK)
	expectDelete(t, table, "gone", 1, api.OK)
	expectCreate(t, table, "held", 1, api.OK)
	expectErr(t, "Hold", table.Hold([]byte("held")), api.OK)
	for id, want := range map[string]api.Errno{"live": api.ErrThere, "held": api.ErrThere, "gone": api.ErrGone, "new": api.ErrFull, "": api.ErrArg} {
		expectCreate(t, table, id, 0, want)
		for _, l := range []direct.Limits{{}, {Labels: 65, Pending: 1, Epochs: 1}, {Labels: 1, Pending: 17, Epochs: 1}, {Labels: 1, Pending: 1, Epochs: 33}, {Labels: -1, Pending: 1, Epochs: 1}} {
			got, err := table.Create([]byte(id), keys, l)
			expectPlace(t, "Create with no such limits", got, err, 0, api.ErrArg)
		}
		expectImport(t, table, id, directory(t, "other"), 0, want)
		expectImport(t, table, id, nil, 0, api.ErrArg)
	}
	expectIds(t, table, tenant.Live, "live")
	expectIds(t, table, tenant.Held, "held")
	expectIds(t, table, tenant.Gone, "gone")
}

// Who is imported has the very directory, be it another id's, and one that has epochs (P22.1).
func TestImport(t *testing.T) {
	table := open(t, 4)
	d := directory(t, "other")
	d.Put([]byte("a"), nil)
	d.Seal()
	zero := &direct.Directory{}
	expectImport(t, table, "one", d, 0, api.OK)
	expectImport(t, table, "two", d, 1, api.OK)
	expectImport(t, table, "three", zero, 2, api.OK)
	expectSeated(t, table, "one", tenant.Live, 0, d)
	expectSeated(t, table, "two", tenant.Live, 1, d)
	expectSeated(t, table, "three", tenant.Live, 2, zero)
	expectNone(t, table, "other", tenant.Nobody, api.ErrMiss)
}

// Who is settled is of that state, at that place, whichever others are free (P22.1).
func TestSettle(t *testing.T) {
	table := open(t, 4)
	d := directory(t, "a")
	for i, c := range []struct {
		id           string
		state, place int
	}{{"c", tenant.Live, 3}, {"a", tenant.Held, 1}, {"b", tenant.Live, 0}} {
		expectErr(t, "Settle", table.Settle([]byte(c.id), c.state, c.place, d), api.OK)
		expectSeated(t, table, c.id, c.state, c.place, d)
		expectRoom(t, table, 3-i)
	}
	// Of one that is Gone neither place nor directory is looked at, as it has none.
	for i, place := range []int{0, 1, 2, 3, 4, -1, math.MinInt, math.MaxInt} {
		id := "gone" + string(rune('0'+i))
		var with *direct.Directory
		if i%2 == 1 {
			with = d
		}
		expectErr(t, "Settle", table.Settle([]byte(id), tenant.Gone, place, with), api.OK)
		expectNone(t, table, id, tenant.Gone, api.ErrGone)
		expectRoom(t, table, 1)
	}
	expectIds(t, table, tenant.Live, "b", "c")
	expectIds(t, table, tenant.Held, "a")
	expectIds(t, table, tenant.Gone, "gone0", "gone1", "gone2", "gone3", "gone4", "gone5", "gone6", "gone7")
	expectCreate(t, table, "new", 2, api.OK)
	expectSeated(t, table, "a", tenant.Held, 1, d)
}

// Settle's refusals, in their order: ErrArg, ErrThere, ErrFull (P22.1).
func TestRefusalsOfSettle(t *testing.T) {
	table := open(t, 3)
	d := directory(t, "a")
	expectCreate(t, table, "live", 0, api.OK)
	expectCreate(t, table, "held", 1, api.OK)
	expectErr(t, "Hold", table.Hold([]byte("held")), api.OK)
	expectErr(t, "Settle", table.Settle([]byte("gone"), tenant.Gone, 0, nil), api.OK)
	for _, id := range []string{"live", "held", "gone", "new", "", "seventeen bytes !"} {
		isId := len(id) >= 1 && len(id) <= 16
		for _, state := range []int{math.MinInt, -1, 0, 1, 2, 3, 4, 257, math.MaxInt} {
			for _, place := range []int{math.MinInt, -1, 0, 1, 3, 8, math.MaxInt} {
				for _, with := range []*direct.Directory{nil, d} {
					if isId && id == "new" && state == tenant.Gone {
						continue
					}
					want := api.ErrFull
					switch {
					case !isId, state < 1, state > 3, state != 3 && (with == nil || place < 0 || place > 2):
						want = api.ErrArg
					case id != "new":
						want = api.ErrThere
					}
					expectErr(t, "Settle "+id, table.Settle([]byte(id), state, place, with), want)
				}
			}
		}
	}
	expectIds(t, table, tenant.Live, "live")
	expectIds(t, table, tenant.Held, "held")
	expectIds(t, table, tenant.Gone, "gone")
	expectRoom(t, table, 1)
	expectNone(t, table, "new", tenant.Nobody, api.ErrMiss)
}

// Who is Live may be held, who is Held freed; else it is ErrHeld (P22.1).
func TestHoldAndFree(t *testing.T) {
	table := open(t, 3)
	d := directory(t, "a")
	expectImport(t, table, "other", d, 0, api.OK)
	expectImport(t, table, "a", d, 1, api.OK)
	for range 2 {
		expectErr(t, "Free", table.Free([]byte("a")), api.ErrHeld)
		expectSeated(t, table, "a", tenant.Live, 1, d)
		expectErr(t, "Hold", table.Hold([]byte("a")), api.OK)
		expectSeated(t, table, "a", tenant.Held, 1, d)
		expectIds(t, table, tenant.Live, "other")
		expectIds(t, table, tenant.Held, "a")
		expectErr(t, "Hold", table.Hold([]byte("a")), api.ErrHeld)
		expectSeated(t, table, "a", tenant.Held, 1, d)
		expectRoom(t, table, 1)
		expectErr(t, "Free", table.Free([]byte("a")), api.OK)
		expectSeated(t, table, "a", tenant.Live, 1, d)
		expectSeated(t, table, "other", tenant.Live, 0, d)
		expectIds(t, table, tenant.Live, "a", "other")
		expectIds(t, table, tenant.Held)
	}
}

// Who is Gone, Live or Held ahead of it, never comes back, whatever is tried (P22.2).
func TestGone(t *testing.T) {
	table := open(t, 2)
	d := directory(t, "a")
	expectCreate(t, table, "live", 0, api.OK)
	expectCreate(t, table, "held", 1, api.OK)
	expectErr(t, "Hold", table.Hold([]byte("held")), api.OK)
	expectDelete(t, table, "held", 1, api.OK)
	expectDelete(t, table, "live", 0, api.OK)
	expectErr(t, "Settle", table.Settle([]byte("settled"), tenant.Gone, 0, nil), api.OK)
	expectRoom(t, table, 2)
	for range 2 {
		for _, id := range []string{"live", "held", "settled"} {
			expectCreate(t, table, id, 0, api.ErrGone)
			expectImport(t, table, id, d, 0, api.ErrGone)
			for state := tenant.Live; state <= tenant.Gone; state++ {
				expectErr(t, "Settle", table.Settle([]byte(id), state, 0, d), api.ErrThere)
			}
			expectNone(t, table, id, tenant.Gone, api.ErrGone)
		}
		expectIds(t, table, tenant.Gone, "held", "live", "settled")
		expectIds(t, table, tenant.Live)
		expectIds(t, table, tenant.Held)
		expectRoom(t, table, 2)
	}
	expectCreate(t, table, "x", 0, api.OK)
	expectCreate(t, table, "y", 1, api.OK)
	expectCreate(t, table, "live", 0, api.ErrGone)
}

// Ids are told in the order of their bytes; of other states there are none (P22.1).
func TestOrderOfIds(t *testing.T) {
	ids := []string{"b", "a\x00", "\xff", "a", "\x00", "ä", "B", "aa"}
	for state := tenant.Live; state <= tenant.Gone; state++ {
		table := open(t, 8)
		for place, id := range ids {
			expectErr(t, "Settle", table.Settle([]byte(id), state, place, directory(t, "a")), api.OK)
		}
		expectIds(t, table, state, slices.Sorted(slices.Values(ids))...)
		for _, other := range []int{math.MinInt, -1, 0, 1, 2, 3, 4, 5, 256, 259, math.MaxInt} {
			if other != state {
				expectIds(t, table, other)
			}
		}
	}
}

// A nil table: ErrArg, 0, none; one that New didn't make has no place (P22.1, P1).
func TestNoTable(t *testing.T) {
	var none *tenant.Table
	d := directory(t, "a")
	for _, id := range []string{"", "a"} {
		expectCreate(t, none, id, 0, api.ErrArg)
		expectImport(t, none, id, d, 0, api.ErrArg)
		expectNone(t, none, id, tenant.Nobody, api.ErrArg)
		for state := -1; state < 5; state++ {
			expectErr(t, "Settle", none.Settle([]byte(id), state, 0, d), api.ErrArg)
			expectIds(t, none, state)
		}
	}
	expectRoom(t, none, 0)
	var zero tenant.Table
	expectRoom(t, &zero, 0)
	expectCreate(t, &zero, "a", 0, api.ErrFull)
	expectImport(t, &zero, "a", d, 0, api.ErrFull)
	expectErr(t, "Settle", zero.Settle([]byte("a"), tenant.Live, 0, d), api.ErrArg)
	expectErr(t, "Settle", zero.Settle([]byte("a"), tenant.Gone, 0, d), api.OK)
	expectNone(t, &zero, "a", tenant.Gone, api.ErrGone)
	expectNone(t, &zero, "b", tenant.Nobody, api.ErrMiss)
}
