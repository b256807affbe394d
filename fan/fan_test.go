package fan_test

import (
	"fmt"
	"math"
	"runtime"
	"slices"
	"sync"
	"testing"
	"time"

	"custumal/api"
	"custumal/direct"
	"custumal/fan"
	"custumal/host"
	"custumal/verify"
	"custumal/wire"
)

// told: the jobs of a host that tells of some tenants, labels and epochs; all of them are taken.
func told(t *testing.T) (public [32]byte, jobs []fan.Job) {
	t.Helper()
	h, err := host.New([32]byte{3}, 4, 0)
	if err != api.OK {
		t.Fatal(err)
	}
	for _, id := range []string{"a", "b", "c"} {
		r := wire.Request{Kind: wire.Create, Id: []byte(id), Keys: direct.Keys{Vrf: [32]byte{id[0]}}, Limits: direct.Limits{Labels: 5, Pending: 5, Epochs: 9}, Period: 1}
		if a := h.Serve(r); a.Err != api.OK {
			t.Fatal(a.Err)
		}
	}
	for i := range 3 {
		for _, id := range []string{"a", "b"} {
			h.Serve(wire.Request{Kind: wire.Put, Id: []byte(id), Label: []byte{'l' + byte(i)}, Value: []byte{id[0], byte(i)}})
		}
		h.Tick()
	}
	for _, id := range []string{"a", "b", "c"} {
		for _, label := range []string{"l", "m", "n", "never"} {
			for at := range 4 {
				b, err := wire.Ask(wire.Request{Kind: wire.Lookup, Id: []byte(id), Label: []byte(label), From: at})
				if err != api.OK {
					t.Fatal(err)
				}
				jobs = append(jobs, fan.Job{Id: []byte(id), Label: []byte(label), Answer: h.Do(b)})
			}
		}
	}
	return h.Public(), jobs
}

// spoilt: of each fifth job something is another thing.
func spoilt(jobs []fan.Job) (all []fan.Job) {
	for i, j := range jobs {
		switch i % 30 {
		case 4:
			j.Answer = nil
		case 9:
			j.Answer = j.Answer[1:]
		case 14:
			j.Id = []byte("another")
		case 19:
			j.Label = []byte("another")
		case 24:
			j.Answer = slices.Clone(j.Answer)
			j.Answer[len(j.Answer)-1] ^= 1
		case 29:
			j.Answer, _ = wire.Tell(wire.Answer{Kind: wire.Lookup, Err: api.ErrMiss})
		}
		all = append(all, j)
	}
	return all
}

// oneByOne: what the verdicts have to be.
func oneByOne(public [32]byte, jobs []fan.Job) (l []fan.Verdict) {
	for _, j := range jobs {
		var v fan.Verdict
		a, err := wire.Told(j.Answer)
		if v.Err = err; err == api.OK {
			v.Seen, v.Err = verify.Look(public, j.Id, j.Label, a)
		}
		l = append(l, v)
	}
	return l
}

func firstOf(l []fan.Verdict) int {
	return slices.IndexFunc(l, func(v fan.Verdict) bool { return v.Err != api.OK })
}

// said: as text, in which nil and empty lists are one.
func said(parts ...any) string { return fmt.Sprintf("%+x", parts) }

func expect(t *testing.T, why string, public [32]byte, jobs []fan.Job, workers int, want []fan.Verdict) {
	t.Helper()
	got, err := fan.Check(public, jobs, workers)
	if err != api.OK || said(got) != said(want) {
		t.Errorf("%s, %d workers: %v, %.900s\nnot\n%.900s", why, workers, err, said(got), said(want))
	}
	at, err := fan.First(public, jobs, workers)
	if err != api.OK || at != firstOf(want) {
		t.Errorf("%s, %d workers: the first is %d, %v, not %d", why, workers, at, err, firstOf(want))
	}
}

// The verdicts stand in the order of the jobs, by as many workers as you like (P31.1, P31.2).
func TestCheck(t *testing.T) {
	public, jobs := told(t)
	mixed := spoilt(jobs)
	all := oneByOne(public, mixed)
	errs := map[api.Errno]int{}
	for _, v := range all {
		errs[v.Err]++
	}
	if errs[api.OK] < 30 || errs[api.ErrForm] < 3 || errs[api.ErrProof] < 3 {
		t.Fatalf("these errors alone came about: %v", errs)
	}
	good := oneByOne(public, jobs)
	for _, v := range good {
		if v.Err != api.OK {
			t.Fatalf("an honest answer: %v", v.Err)
		}
	}
	for workers := 1; workers <= 16; workers++ {
		expect(t, "some are spoilt", public, mixed, workers, all)
		expect(t, "none is", public, jobs, workers, good)
		for count := range 6 {
			expect(t, fmt.Sprint(count, " jobs"), public, mixed[:count], workers, all[:count])
		}
	}
	expect(t, "another host", [32]byte{2}, jobs[:9], 4, oneByOne([32]byte{2}, jobs[:9]))
}

// The first that isn't taken, wherever it stands; those behind it don't count (P31.1).
func TestFirst(t *testing.T) {
	public, jobs := told(t)
	jobs = jobs[:12]
	for i := range jobs {
		mixed := slices.Clone(jobs)
		mixed[i].Answer = nil
		for _, other := range []int{i, len(jobs) - 1} {
			mixed[other].Label = []byte("another")
			for _, workers := range []int{1, 3, 16} {
				if at, err := fan.First(public, mixed, workers); at != i || err != api.OK {
					t.Errorf("%d, by %d: %d, %v", i, workers, at, err)
				}
			}
		}
	}
}

// What may be asked for, and what may not (P31.1).
func TestLimits(t *testing.T) {
	many := make([]fan.Job, 1001)
	for i := range many {
		many[i].Answer = []byte{wire.Lookup, byte(i%3 + 1)}
	}
	for _, workers := range []int{math.MinInt, -1, 0, 1, 2, 15, 16, 17, 18, math.MaxInt} {
		for _, count := range []int{0, 1, 999, 1000, 1001} {
			jobs := many[:count]
			l, err := fan.Check([32]byte{}, jobs, workers)
			at, other := fan.First([32]byte{}, jobs, workers)
			if workers < 1 || workers > 16 || count > 1000 {
				if err != api.ErrArg || len(l) > 0 || other != api.ErrArg || at != 0 {
					t.Errorf("%d jobs by %d: %d verdicts, %v; %d, %v", count, workers, len(l), err, at, other)
				}
				continue
			}
			if err != api.OK || len(l) != count || other != api.OK || at != min(count, 1)-1 {
				t.Errorf("%d jobs by %d: %d verdicts, %v; %d, %v", count, workers, len(l), err, at, other)
			}
			for i, v := range l {
				if said(v) != said(fan.Verdict{Err: api.ErrForm}) {
					t.Fatalf("job %d: %s", i, said(v))
				}
			}
		}
	}
}

// Example 1: of no job there is no verdict.
func TestNoJob(t *testing.T) {
	for _, jobs := range [][]fan.Job{nil, {}} {
		l, err := fan.Check([32]byte{}, jobs, 16)
		if len(l) != 0 || err != api.OK {
			t.Errorf("%v, %v", l, err)
		}
		if at, err := fan.First([32]byte{}, jobs, 1); at != -1 || err != api.OK {
			t.Errorf("%d, %v", at, err)
		}
	}
}

// Calls side by side know nothing of each other; and no worker is left behind (P31.1, P31.2).
func TestSideBySide(t *testing.T) {
	public, jobs := told(t)
	mixed := spoilt(jobs)
	want := oneByOne(public, mixed)
	ahead := runtime.NumGoroutine()
	var all sync.WaitGroup
	for workers := 1; workers <= 16; workers++ {
		all.Go(func() {
			from := workers % 7
			expect(t, "side by side", public, mixed[from:], workers, want[from:])
		})
	}
	all.Wait()
	for range 100 { // one that has ended is counted till it is cleared away
		if runtime.NumGoroutine() <= ahead {
			return
		}
		time.Sleep(10 * time.Millisecond)
	}
	t.Errorf("%d goroutines are left", runtime.NumGoroutine()-ahead)
}

// roomy: the same, with spare room behind it.
func roomy[T any](l []T) []T { return append(slices.Clone(l), make([]T, 5)...)[:len(l)] }

// room: all lists of jobs, with their spare room.
func room(jobs []fan.Job) string {
	all := []any{jobs[:cap(jobs)]}
	for _, j := range jobs {
		all = append(all, j.Id[:cap(j.Id)], j.Label[:cap(j.Label)], j.Answer[:cap(j.Answer)])
	}
	return said(all...)
}

// What is handed in is neither changed, its spare room neither, nor kept; verdicts are new memory, each by itself (P31.3).
func TestMemory(t *testing.T) {
	public, jobs := told(t)
	jobs = roomy(append(jobs[:20], jobs[:20]...))
	for i, j := range jobs {
		jobs[i] = fan.Job{Id: roomy(j.Id), Label: roomy(j.Label), Answer: roomy(j.Answer)}
	}
	was, want := room(jobs), said(oneByOne(public, jobs))
	l, err := fan.Check(public, jobs, 5)
	again, _ := fan.Check(public, jobs, 5)
	fan.First(public, jobs, 3)
	if err != api.OK || said(l) != want || room(jobs) != was {
		t.Fatalf("%v, or jobs are changed", err)
	}
	for i, v := range l {
		for at := range v.Seen.Value[:cap(v.Seen.Value)] {
			v.Seen.Value[:cap(v.Seen.Value)][at] ^= 0x55
		}
		if one := oneByOne(public, jobs[i:i+1])[0]; len(one.Seen.Value) > 0 && said(one) == said(v) {
			t.Errorf("verdict %d wasn't spoilt", i)
		}
	}
	clear(l[:cap(l)])
	if room(jobs) != was || said(again) != want {
		t.Error("a verdict shares memory with jobs or with another answer")
	}
	l, _ = fan.Check(public, jobs, 5)
	for _, j := range jobs {
		clear(j.Id[:cap(j.Id)])
		clear(j.Label[:cap(j.Label)])
		clear(j.Answer[:cap(j.Answer)])
	}
	clear(jobs[:cap(jobs)])
	if said(l) != want {
		t.Error("verdicts hang on the jobs")
	}
}

// No two verdicts share a value (P31.3).
func TestVerdictsAreApart(t *testing.T) {
	public, jobs := told(t)
	jobs = slices.Repeat(jobs[1:2], 8)
	l, _ := fan.Check(public, jobs, 3)
	want := said(l[0])
	for i := range l {
		if said(l[i]) != want || len(l[i].Seen.Value) == 0 {
			t.Fatalf("verdict %d: %s", i, said(l[i]))
		}
		clear(l[i].Seen.Value)
	}
}
