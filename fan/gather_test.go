package fan

import (
	"slices"
	"testing"

	"custumal/api"
)

// verdictOf: of a place.
func verdictOf(at int) result { return result{at, Verdict{Err: api.Errno(at + 1)}} }

func expectGathered(t *testing.T, why string, count int, worker func(places <-chan int, done chan<- result)) {
	t.Helper()
	places, done, ended := make(chan int), make(chan result), make(chan bool)
	go func() {
		worker(places, done)
		close(ended)
	}()
	got := gather(count, places, done)
	close(places)
	<-ended
	if len(got) != count {
		t.Fatalf("%s: %d verdicts of %d", why, len(got), count)
	}
	for at, v := range got {
		if v.Err != api.Errno(at+1) {
			t.Errorf("%s: place %d has the verdict of place %d", why, at, v.Err-1)
		}
	}
}

// Whatever can go on first goes on: by workers that take all ahead of telling anything, that tell backwards, or that take nothing while they have something to tell (P31.1).
func TestGather(t *testing.T) {
	for count := range 12 {
		expectGathered(t, "one by one", count, func(places <-chan int, done chan<- result) {
			for at := range places {
				done <- verdictOf(at)
			}
		})
		for _, backwards := range []bool{false, true} {
			expectGathered(t, "all ahead", count, func(places <-chan int, done chan<- result) {
				var all []int
				for range count {
					all = append(all, <-places)
				}
				if backwards {
					slices.Reverse(all)
				}
				for _, at := range all {
					done <- verdictOf(at)
				}
			})
		}
		expectGathered(t, "each behind the next one", count, func(places <-chan int, done chan<- result) {
			held := -1
			for range count {
				at := <-places
				if held >= 0 {
					done <- verdictOf(held)
				}
				held = at
			}
			if held >= 0 {
				done <- verdictOf(held)
			}
		})
	}
}
