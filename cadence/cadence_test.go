package cadence_test

import (
	"math"
	"math/rand"
	"slices"
	"strconv"
	"strings"
	"testing"

	"custumal/api"
	"custumal/cadence"
)

func open(t *testing.T, now int) *cadence.Schedule {
	t.Helper()
	s, err := cadence.New(now)
	if err != api.OK || s == nil {
		t.Fatalf("New(%d): %v", now, err)
	}
	return s
}

func add(t *testing.T, s *cadence.Schedule, id string, period, age int) {
	t.Helper()
	if err := s.Add(id, period, age); err != api.OK {
		t.Fatalf("Add(%q, %d, %d): %v", id, period, age, err)
	}
}

// expectTick: these are due, at the next tick.
func expectTick(t *testing.T, s *cadence.Schedule, want ...string) {
	t.Helper()
	now := s.Now()
	if due, err := s.Tick(); err != api.OK || !slices.Equal(due, want) || s.Now() != now+1 {
		t.Errorf("tick behind %d: %q, %v, now %d; not %q", now, due, err, s.Now(), want)
	}
}

func expectAge(t *testing.T, s *cadence.Schedule, id string, age int, want api.Errno) {
	t.Helper()
	if got, err := s.Age(id); got != age || err != want {
		t.Errorf("Age(%q): %d, %v, not %d, %v", id, got, err, age, want)
	}
}

func expectNext(t *testing.T, s *cadence.Schedule, id string, tick int, want api.Errno) {
	t.Helper()
	if got, err := s.Next(id); got != tick || err != want {
		t.Errorf("Next(%q): %d, %v, not %d, %v", id, got, err, tick, want)
	}
}

func expectIds(t *testing.T, s *cadence.Schedule, want ...string) {
	t.Helper()
	if got := s.Ids(); !slices.Equal(got, want) {
		t.Errorf("Ids: %q, not %q", got, want)
	}
}

// The chapter's example (P21.1).
func TestExample(t *testing.T) {
	s := open(t, 0)
	add(t, s, "a", 2, 0)
	for range 5 {
		expectTick(t, s)
		expectTick(t, s, "a")
	}
}

// A schedule is at a tick that isn't below 0; else there is none (P21.1).
func TestNew(t *testing.T) {
	for _, now := range []int{0, 1, 2, 1000, 1 << 32, math.MaxInt - 1, math.MaxInt} {
		s := open(t, now)
		if s.Now() != now {
			t.Errorf("New(%d) is at %d", now, s.Now())
		}
		expectIds(t, s)
		expectAge(t, s, "", 0, api.ErrMiss)
	}
	for _, now := range []int{-1, -2, -1 << 32, math.MinInt + 1, math.MinInt} {
		if s, err := cadence.New(now); s != nil || err != api.ErrArg {
			t.Errorf("New(%d): %v", now, err)
		}
	}
}

// A period is 1 to 1000, an age not below 0; nobody is there twice. ErrArg is told first (P21.1).
func TestAdd(t *testing.T) {
	s := open(t, 5)
	add(t, s, "there", 3, 7)
	ids := []string{"there"}
	for i, period := range []int{math.MinInt, -1000, -1, 0, 1, 2, 999, 1000, 1001, 1<<32 + 1, math.MaxInt} {
		for j, age := range []int{math.MinInt, -1, 0, 1, 1000, math.MaxInt - 1, math.MaxInt} {
			id := strconv.Itoa(100*i + j)
			want, known := api.OK, api.ErrThere
			if period < 1 || period > 1000 || age < 0 {
				want, known = api.ErrArg, api.ErrArg
			}
			if err := s.Add(id, period, age); err != want {
				t.Errorf("Add of %d, %d: %v", period, age, err)
			}
			if err := s.Add("there", period, age); err != known {
				t.Errorf("once more, of %d, %d: %v", period, age, err)
			}
			if want != api.OK {
				expectAge(t, s, id, 0, api.ErrMiss)
				continue
			}
			expectAge(t, s, id, age, api.OK)
			if err := s.Add(id, period, age); err != api.ErrThere {
				t.Errorf("%s twice: %v", id, err)
			}
			ids = append(ids, id)
		}
	}
	slices.Sort(ids)
	expectIds(t, s, ids...)
	expectAge(t, s, "there", 7, api.OK)
	expectNext(t, s, "there", 7, api.OK)
	if s.Now() != 5 {
		t.Errorf("now %d", s.Now())
	}
}

// Who is removed is there no more, and may be added anew, with another period and age (P21.1).
func TestRemove(t *testing.T) {
	s := open(t, 0)
	for _, id := range []string{"b", "a", "c"} {
		add(t, s, id, 1, 0)
	}
	if err := s.Remove("d"); err != api.ErrMiss {
		t.Error(err)
	}
	for i, id := range []string{"b", "c", "a"} {
		if err := s.Remove(id); err != api.OK {
			t.Error(err)
		}
		if err := s.Remove(id); err != api.ErrMiss {
			t.Error(err)
		}
		expectAge(t, s, id, 0, api.ErrMiss)
		expectNext(t, s, id, 0, api.ErrMiss)
		expectIds(t, s, [][]string{{"a", "c"}, {"a"}, {}}[i]...)
		expectTick(t, s, [][]string{{"a", "c"}, {"a"}, {}}[i]...)
	}
	add(t, s, "b", 3, 4)
	expectAge(t, s, "b", 4, api.OK)
	expectTick(t, s)
	expectTick(t, s, "b")
}

// Who isn't there has no age and is never due (P21.1).
func TestNobody(t *testing.T) {
	s := open(t, 3)
	for _, id := range []string{"", "a", "\x00"} {
		expectAge(t, s, id, 0, api.ErrMiss)
		expectNext(t, s, id, 0, api.ErrMiss)
		if err := s.Remove(id); err != api.ErrMiss {
			t.Error(err)
		}
	}
	for range 3 {
		expectTick(t, s)
	}
	add(t, s, "a", 1, 0)
	expectAge(t, s, "", 0, api.ErrMiss)
	expectAge(t, s, "aa", 0, api.ErrMiss)
	expectAge(t, s, "b", 0, api.ErrMiss)
}

// Of period 1 one is due at each tick, of 1000 at each thousandth one of its age, whatever the tick (P21.1).
func TestPeriods(t *testing.T) {
	s := open(t, 7)
	add(t, s, "each", 1, 0)
	add(t, s, "rare", 1000, 0)
	add(t, s, "soon", 1000, 998)
	add(t, s, "now", 1000, 3999)
	for i := 1; i <= 2100; i++ {
		want := []string{"each"}
		if (3999+i)%1000 == 0 {
			want = append(want, "now")
		}
		if i%1000 == 0 {
			want = append(want, "rare")
		}
		if (998+i)%1000 == 0 {
			want = append(want, "soon")
		}
		expectTick(t, s, want...)
		expectAge(t, s, "rare", i, api.OK)
		expectNext(t, s, "each", 7+i+1, api.OK)
		expectNext(t, s, "rare", 7+(i/1000+1)*1000, api.OK)
	}
}

// Who is added at an age that is a multiple is due a whole period later (P21.1).
func TestAgeIsAMultiple(t *testing.T) {
	for _, age := range []int{0, 5, 10, 5000000} {
		s := open(t, 100)
		add(t, s, "a", 5, age)
		expectNext(t, s, "a", 105, api.OK)
		for range 4 {
			expectTick(t, s)
		}
		expectNext(t, s, "a", 105, api.OK)
		expectTick(t, s, "a")
		expectNext(t, s, "a", 110, api.OK)
	}
}

// Many that are due at one tick are told in the order of their bytes, as all are (P21.1).
func TestOrder(t *testing.T) {
	ids := []string{"", "\x00", "\x00\x00", "\x00a", "A", "B", "a", "a\x00", "aa", "ab", "b", "ä", "\xc3", "\xff", "\xff\xff", strings.Repeat("z", 70000)}
	for i := range 1000 {
		ids = append(ids, strconv.Itoa(i))
	}
	s := open(t, 0)
	for _, i := range rand.New(rand.NewSource(1)).Perm(len(ids)) {
		add(t, s, ids[i], 2, 0)
	}
	slices.Sort(ids)
	expectIds(t, s, ids...)
	expectTick(t, s)
	expectTick(t, s, ids...)
}

// At the last tick there is no next one: nothing is done (P21.1).
func TestLastTick(t *testing.T) {
	s := open(t, math.MaxInt-2)
	add(t, s, "a", 1, 0)
	add(t, s, "b", 2, 0)
	add(t, s, "c", 3, 0)
	expectNext(t, s, "a", math.MaxInt-1, api.OK)
	expectNext(t, s, "b", math.MaxInt, api.OK)
	expectNext(t, s, "c", 0, api.ErrClock)
	expectTick(t, s, "a")
	expectNext(t, s, "a", math.MaxInt, api.OK)
	expectNext(t, s, "b", math.MaxInt, api.OK)
	expectTick(t, s, "a", "b")
	for range 3 {
		if due, err := s.Tick(); len(due) > 0 || err != api.ErrClock || s.Now() != math.MaxInt {
			t.Errorf("%q, %v, now %d", due, err, s.Now())
		}
		for _, id := range []string{"a", "b", "c"} {
			expectAge(t, s, id, 2, api.OK)
			expectNext(t, s, id, 0, api.ErrClock)
		}
	}
	// What has nothing to do with ticks is done still.
	add(t, s, "d", 1, 1)
	if err := s.Remove("a"); err != api.OK {
		t.Error(err)
	}
	expectIds(t, s, "b", "c", "d")
	expectNext(t, s, "d", 0, api.ErrClock)
}

// A Next that is the last tick is still there, one behind it isn't (P21.1).
func TestNextAtTheEnd(t *testing.T) {
	for _, period := range []int{1, 2, 7, 999, 1000} {
		for left := 1; left <= period; left++ {
			age := 3*period - left
			for short := range 3 {
				s := open(t, math.MaxInt-left+1-short)
				add(t, s, "a", period, age)
				if short == 0 {
					expectNext(t, s, "a", 0, api.ErrClock)
				} else {
					expectNext(t, s, "a", math.MaxInt-short+1, api.OK)
				}
			}
		}
	}
}

// An age grows to 2^63 - 1, and stays: who isn't due by then never is, and who is due then is at each tick (P21.1).
func TestAgeAtTheEnd(t *testing.T) {
	// 2^63 - 1 is a multiple of 1, 7, 49, 73, 127, 337, 511, 889, but of no other numbers here.
	for _, period := range []int{1, 2, 3, 7, 8, 10, 49, 73, 127, 128, 337, 511, 889, 999, 1000} {
		for _, left := range []int{0, 1, 2, 5} {
			s := open(t, 10)
			add(t, s, "a", period, math.MaxInt-left)
			for i := 1; i <= 10; i++ {
				age, want := math.MaxInt-max(left-i, 0), []string{}
				if age%period == 0 {
					want = append(want, "a")
				}
				expectTick(t, s, want...)
				expectAge(t, s, "a", age, api.OK)
			}
		}
	}
}

// Next is a tick to which the age still grows: it is ErrClock, where the age stays ahead of it (P21.1).
func TestNextOfGreatAges(t *testing.T) {
	for _, period := range []int{1, 2, 3, 7, 8, 10, 49, 1000} {
		for left := range 1100 {
			s, age := open(t, 10), math.MaxInt-left
			add(t, s, "a", period, age)
			if ticks := period - age%period; ticks <= left {
				expectNext(t, s, "a", 10+ticks, api.OK)
			} else {
				expectNext(t, s, "a", 0, api.ErrClock)
			}
		}
	}
	for _, now := range []int{0, math.MaxInt - 1, math.MaxInt} {
		s := open(t, now)
		add(t, s, "a", 1, math.MaxInt)
		expectNext(t, s, "a", 0, api.ErrClock)
	}
}

// A nil schedule: 0, ErrArg, none; one that New didn't make is nobody's, at 0 (P21.1, P1).
func TestNoSchedule(t *testing.T) {
	var none *cadence.Schedule
	for range 2 {
		if none.Now() != 0 || none.Ids() != nil {
			t.Error("a nil schedule has something")
		}
		if due, err := none.Tick(); due != nil || err != api.ErrArg {
			t.Error(due, err)
		}
		for _, period := range []int{-1, 1} {
			if err := none.Add("a", period, 0); err != api.ErrArg {
				t.Error(err)
			}
		}
		if err := none.Remove("a"); err != api.ErrArg {
			t.Error(err)
		}
		expectAge(t, none, "a", 0, api.ErrArg)
		expectNext(t, none, "a", 0, api.ErrArg)
	}
	var zero cadence.Schedule
	expectIds(t, &zero)
	add(t, &zero, "a", 1, 0)
	expectTick(t, &zero, "a")
	if zero.Now() != 1 {
		t.Error(zero.Now())
	}
}

// What is told is new memory (rule 4).
func TestAnswersAreNew(t *testing.T) {
	s := open(t, 0)
	for _, id := range []string{"a", "b", "c"} {
		add(t, s, id, 1, 0)
	}
	for range 3 {
		due, _ := s.Tick()
		for _, l := range [][]string{due, s.Ids()} {
			for i := range l[:cap(l)] {
				l[:cap(l)][i] = "spoilt"
			}
		}
		expectIds(t, s, "a", "b", "c")
	}
	expectTick(t, s, "a", "b", "c")
}

// A note is who is in a schedule, told of apart: since which tick, and how old then.
type note struct{ period, age, since uint64 }

func (n note) ageAt(now uint64) uint64 { return min(n.age+now-n.since, math.MaxInt) }

func (n note) next(now uint64) (int, api.Errno) {
	for tick := now + 1; tick <= now+1000 && tick <= math.MaxInt; tick++ {
		if n.ageAt(tick)%n.period == 0 && n.ageAt(tick) > n.ageAt(tick-1) {
			return int(tick), api.OK
		}
	}
	return 0, api.ErrClock
}

// Told by chance, a schedule answers as is worked out apart (P21.1); and of each one as a schedule that has it alone (P21.2).
func TestByChance(t *testing.T) {
	for seed := range int64(80) {
		r := rand.New(rand.NewSource(seed))
		now := []int{0, 1, 1 << 40, math.MaxInt - 90, math.MaxInt - 300}[r.Intn(5)]
		s, notes, alone := open(t, now), map[string]note{}, map[string]*cadence.Schedule{}
		for range 200 {
			id := string(rune('a' + r.Intn(8)))
			n, there := notes[id]
			switch r.Intn(6) {
			case 0:
				n = note{uint64(1 + r.Intn(12)), uint64(r.Intn(30)), uint64(now)}
				if r.Intn(3) == 0 {
					n.age = math.MaxInt - n.age
				}
				want := api.OK
				if there {
					want = api.ErrThere
				} else {
					notes[id], alone[id] = n, open(t, now)
					add(t, alone[id], id, int(n.period), int(n.age))
				}
				if err := s.Add(id, int(n.period), int(n.age)); err != want {
					t.Errorf("Add: %v, not %v", err, want)
				}
			case 1:
				if r.Intn(2) == 0 {
					delete(notes, id)
					delete(alone, id)
					s.Remove(id)
				}
			default:
				now = tick(t, s, now, notes, alone)
			}
			expectNotes(t, s, notes, alone)
		}
	}
}

// tick: the next one, of all and of each alone, and who has to be due; the tick now.
func tick(t *testing.T, s *cadence.Schedule, now int, notes map[string]note, alone map[string]*cadence.Schedule) int {
	t.Helper()
	if now == math.MaxInt {
		if due, err := s.Tick(); due != nil || err != api.ErrClock {
			t.Errorf("%q, %v at the last tick", due, err)
		}
		return now
	}
	var want []string
	for id, n := range notes {
		due, err := alone[id].Tick()
		if n.ageAt(uint64(now+1))%n.period == 0 {
			want = append(want, id)
			if !slices.Equal(due, []string{id}) || err != api.OK {
				t.Errorf("alone: %q, %v", due, err)
			}
		} else if len(due) > 0 {
			t.Errorf("alone: %q is due", due)
		}
	}
	slices.Sort(want)
	expectTick(t, s, want...)
	return now + 1
}

func expectNotes(t *testing.T, s *cadence.Schedule, notes map[string]note, alone map[string]*cadence.Schedule) {
	t.Helper()
	var ids []string
	for id, n := range notes {
		ids = append(ids, id)
		expectAge(t, s, id, int(n.ageAt(uint64(s.Now()))), api.OK)
		next, err := n.next(uint64(s.Now()))
		expectNext(t, s, id, next, err)
		expectNext(t, alone[id], id, next, err)
	}
	slices.Sort(ids)
	expectIds(t, s, ids...)
}
