package verify_test

import (
	"math"
	"slices"
	"testing"

	"custumal/api"
	"custumal/rfclog"
	"custumal/verify"
	"custumal/wire"
)

// growth: of a log of that many entries.
func growth(t *testing.T, from, to int) (old [32]byte, a wire.Answer) {
	t.Helper()
	log := &rfclog.Log{}
	for i := range to {
		log.Add([]byte{byte(i)})
	}
	old, _ = log.Root(from)
	a.Kind = wire.Growth
	a.Log, _ = log.Root(to)
	var err api.Errno
	if a.Sums, err = log.Consistency(from, to); err != api.OK {
		t.Fatal(err)
	}
	return old, a
}

// Growths are taken; each fault of one is found, as the log's check does (P28.1).
func TestGrowths(t *testing.T) {
	for to := range 20 {
		for from := range to + 1 {
			old, a := growth(t, from, to)
			expect := func(why string, want api.Errno, from, to int, old [32]byte, change func(a *wire.Answer)) {
				t.Helper()
				a := copyOf(a)
				change(&a)
				if err := verify.Grow(from, to, old, a); err != want {
					t.Errorf("from %d to %d, %s: %v, not %v", from, to, why, err, want)
				}
			}
			expect("right", api.OK, from, to, old, func(a *wire.Answer) { a.Marks, a.Found.Epoch, a.Under.Log = nil, -1, old })
			expect("another beginning", api.ErrProof, from, to, sumOf("old"), func(*wire.Answer) {})
			expect("a sum more", api.ErrProof, from, to, old, func(a *wire.Answer) { a.Sums = append(a.Sums, old) })
			expect("below 0", api.ErrArg, -1, to, old, func(*wire.Answer) {})
			expect("the least one", api.ErrArg, math.MinInt, to, old, func(*wire.Answer) {})
			expect("beyond the end", api.ErrArg, to+1, to, old, func(*wire.Answer) {})
			expect("below 0, and no growth", api.ErrForm, -1, to, old, func(a *wire.Answer) { a.Kind = wire.Audit })
			expect("an error", api.ErrForm, from, to, old, func(a *wire.Answer) { a.Err = api.ErrArg })
			expect("an error's number below 0", api.ErrForm, from, to, old, func(a *wire.Answer) { a.Err = -1 })
			expect("another kind", api.ErrForm, from, to, old, func(a *wire.Answer) { a.Kind = wire.Lookup })
			if from > 0 || to == 0 {
				expect("another root", api.ErrProof, from, to, old, func(a *wire.Answer) { turn(&a.Log) })
			} else {
				expect("any root behind nothing", api.OK, from, to, old, func(a *wire.Answer) { turn(&a.Log) })
			}
			for i := range a.Sums {
				expect("another sum", api.ErrProof, from, to, old, func(a *wire.Answer) { turn(&a.Sums[i]) })
				expect("a sum less", api.ErrProof, from, to, old, func(a *wire.Answer) { a.Sums = slices.Delete(a.Sums, i, i+1) })
			}
		}
	}
}
