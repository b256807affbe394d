package rfclog_test

import (
	"math"
	"math/rand"
	"slices"
	"testing"

	"custumal/api"
	"custumal/rfclog"
)

// wrongProofs: lists that differ from a proof in a bit, in a sum left out, put in, or in the place of another one.
func wrongProofs(p [][32]byte) (all [][][32]byte) {
	for i := range p {
		for _, bit := range []int{0, 77, 255} {
			q := slices.Clone(p)
			q[i] = turned(q[i], bit)
			all = append(all, q)
		}
		all = append(all, slices.Delete(slices.Clone(p), i, i+1), slices.Insert(slices.Clone(p), i, p[i]), slices.Insert(slices.Clone(p), i, [32]byte{}))
		if j := (i + 1) % len(p); p[i] != p[j] {
			q := slices.Clone(p)
			q[i], q[j] = q[j], q[i]
			all = append(all, q)
		}
	}
	all = append(all, append(slices.Clone(p), [32]byte{}), append(slices.Clone(p), sumOf(nil)), append(slices.Clone(p), sums(1, 70)...))
	if len(p) > 0 {
		all = append(all, nil, [][32]byte{})
	}
	return all
}

func expectInclusion(t *testing.T, why string, entry []byte, i, n int, p [][32]byte, root [32]byte, want api.Errno) {
	t.Helper()
	if own := inclusionVerdict(entry, i, n, p, root); own != want {
		t.Fatalf("%s: %d in %d: the test's own verdict is %v", why, i, n, own)
	}
	if err := rfclog.CheckInclusion(entry, i, n, p, root); err != want {
		t.Fatalf("%s: %d in %d, %d sums: %v, not %v", why, i, n, len(p), err, want)
	}
}

func expectConsistency(t *testing.T, why string, m, n int, p [][32]byte, old, root [32]byte, want api.Errno) {
	t.Helper()
	if own := consistencyVerdict(m, n, p, old, root); own != want {
		t.Fatalf("%s: %d to %d: the test's own verdict is %v", why, m, n, own)
	}
	if err := rfclog.CheckConsistency(m, n, p, old, root); err != want {
		t.Fatalf("%s: %d to %d, %d sums: %v, not %v", why, m, n, len(p), err, want)
	}
}

// Of what is not just the proof nothing is taken, nor of another entry or under another root (P16.1).
func TestWrongInclusion(t *testing.T) {
	all := entries(33)
	for _, n := range []int{1, 2, 3, 4, 5, 6, 7, 8, 9, 15, 16, 17, 31, 32, 33} {
		root := sumOf(all[:n])
		for i := range n {
			p := pathOf(i, all[:n])
			for _, q := range wrongProofs(p) {
				expectInclusion(t, "a wrong proof", all[i], i, n, q, root, api.ErrProof)
			}
			expectInclusion(t, "another entry", append(slices.Clone(all[i]), 0), i, n, p, root, api.ErrProof)
			expectInclusion(t, "a node's text as an entry", append([]byte{1}, all[i]...), i, n, p, root, api.ErrProof)
			if n > 1 {
				expectInclusion(t, "no sums, and noughts as the root", all[i], i, n, nil, [32]byte{}, api.ErrProof)
			}
			expectInclusion(t, "another root", all[i], i, n, p, turned(root, 0), api.ErrProof)
			expectInclusion(t, "another root", all[i], i, n, p, turned(root, 255), api.ErrProof)
		}
	}
}

// Of other places and counts a proof shows what comes out there, and mostly nothing (P16.1).
func TestInclusionOfOtherNumbers(t *testing.T) {
	all := entries(20)
	for n := 1; n <= 20; n++ {
		root := sumOf(all[:n])
		for i := range n {
			p := pathOf(i, all[:n])
			for j := range 22 {
				for o := range 36 {
					want := inclusionVerdict(all[i], j, o, p, root)
					if o == n && j != i && j < n && want != api.ErrProof {
						t.Fatalf("%d of %d is taken as %d", i, n, j)
					}
					expectInclusion(t, "other numbers", all[i], j, o, p, root, want)
				}
			}
		}
	}
}

// As wrongProofs, where the old root or the younger one is another one (P16.1).
func TestWrongConsistency(t *testing.T) {
	all := entries(33)
	for _, n := range []int{1, 2, 3, 4, 5, 6, 7, 8, 9, 15, 16, 17, 31, 32, 33} {
		root := sumOf(all[:n])
		for m := 1; m <= n; m++ {
			p, old := subOf(m, all[:n], true), sumOf(all[:m])
			for _, q := range wrongProofs(p) {
				expectConsistency(t, "a wrong proof", m, n, q, old, root, api.ErrProof)
			}
			for _, bit := range []int{0, 100, 255} {
				expectConsistency(t, "another old root", m, n, p, turned(old, bit), root, api.ErrProof)
				expectConsistency(t, "another root", m, n, p, old, turned(root, bit), api.ErrProof)
			}
			if m < n {
				expectConsistency(t, "no sums, and noughts as both roots", m, n, nil, [32]byte{}, [32]byte{}, api.ErrProof)
				expectConsistency(t, "no sums, and noughts as the root", m, n, nil, old, [32]byte{}, api.ErrProof)
				expectConsistency(t, "the roots the other way round", m, n, p, root, old, api.ErrProof)
				expectConsistency(t, "the younger root twice", m, n, p, root, root, api.ErrProof)
				expectConsistency(t, "the old root twice", m, n, p, old, old, api.ErrProof)
			}
		}
	}
}

// Of other counts a proof shows what comes out there (P16.1).
func TestConsistencyOfOtherNumbers(t *testing.T) {
	all := entries(18)
	for n := range 19 {
		for m := range n + 1 {
			p, old, root := subOf(m, all[:n], true), sumOf(all[:m]), sumOf(all[:n])
			for k := range 20 {
				for o := range 36 {
					expectConsistency(t, "other numbers", k, o, p, old, root, consistencyVerdict(k, o, p, old, root))
				}
			}
		}
	}
}

// From no entries on: no sums, and the old root is that of nothing; any root stands on it, but of no entries just this one (P16.1).
func TestConsistencyFromNone(t *testing.T) {
	none, other := sumOf(nil), entrySum([]byte("a"))
	for _, n := range []int{0, 1, 2, 3, 4, 7, 8, 1 << 40, math.MaxInt} {
		expectConsistency(t, "sums", 0, n, [][32]byte{other}, none, none, api.ErrProof)
		expectConsistency(t, "many sums", 0, n, sums(1, 5), none, other, api.ErrProof)
		expectConsistency(t, "noughts as the old root", 0, n, nil, [32]byte{}, none, api.ErrProof)
		expectConsistency(t, "one old root", 0, n, nil, other, other, api.ErrProof)
		expectConsistency(t, "the same", 0, n, nil, none, none, api.OK)
		want := api.OK
		if n == 0 {
			want = api.ErrProof
		}
		expectConsistency(t, "any root", 0, n, nil, none, other, want)
		expectConsistency(t, "noughts as a root", 0, n, [][32]byte{}, none, [32]byte{}, want)
	}
}

// From all on: no sums, and one root, whichever it is (P16.1).
func TestConsistencyFromAll(t *testing.T) {
	for _, n := range []int{1, 2, 3, 4, 5, 8, 9, 1 << 40, 1<<62 + 1, math.MaxInt} {
		for _, root := range append(sums(1, 2), [32]byte{}, sumOf(nil)) {
			expectConsistency(t, "the same", n, n, nil, root, root, api.OK)
			expectConsistency(t, "another one", n, n, nil, root, turned(root, 9), api.ErrProof)
			expectConsistency(t, "a sum", n, n, [][32]byte{root}, root, root, api.ErrProof)
			expectConsistency(t, "two sums", n, n, [][32]byte{root, root}, root, root, api.ErrProof)
		}
	}
}

// Numbers that are none are ErrArg, whatever the sums are (P16.1).
func TestCheckWrongNumbers(t *testing.T) {
	entry := []byte("a")
	root := entrySum(entry)
	for _, p := range [][][32]byte{nil, sums(1, 1), sums(1, 3), sums(1, 100)} {
		for _, c := range [][2]int{
			{0, 0}, {1, 1}, {2, 1}, {-1, 1}, {-1, 0}, {0, -1}, {-1, -1}, {-2, -1}, {5, 5}, {6, 5}, {-1, 5}, {math.MinInt, 5}, {math.MaxInt, 5},
			{math.MaxInt, math.MaxInt}, {math.MinInt, math.MaxInt}, {0, math.MinInt}, {math.MinInt, math.MinInt}, {math.MaxInt, math.MinInt}, {1 << 32, 1},
		} {
			expectInclusion(t, "no numbers", entry, c[0], c[1], p, root, api.ErrArg)
		}
		for _, c := range [][2]int{
			{1, 0}, {2, 1}, {-1, 0}, {-1, 1}, {-1, 5}, {0, -1}, {-1, -1}, {-2, -1}, {6, 5}, {math.MinInt, 5}, {math.MaxInt, 5}, {1, math.MinInt},
			{math.MinInt, math.MinInt}, {math.MinInt, math.MaxInt}, {math.MaxInt, math.MaxInt - 1}, {math.MaxInt, math.MinInt}, {0, math.MinInt},
		} {
			expectConsistency(t, "no numbers", c[0], c[1], p, root, root, api.ErrArg)
			expectConsistency(t, "no numbers", c[0], c[1], p, sumOf(nil), root, api.ErrArg)
		}
	}
}

// great: counts beyond all logs that fit a machine.
func great() []int {
	all := []int{1 << 20, 1<<20 + 1, 1<<32 - 1, 1 << 32, 1<<32 + 1, 1<<62 - 1, 1 << 62, 1<<62 + 1, 1<<62 + 1<<61, math.MaxInt - 1, math.MaxInt}
	r := rand.New(rand.NewSource(3))
	for i := range 6 {
		all = append(all, int(r.Uint64()>>(1+7*i)|1<<20))
	}
	return all
}

// placesIn: at both ends of so many, and about the powers of two.
func placesIn(n int) []int {
	k := below(n)
	return []int{0, 1, 2, n / 3, n / 2, k - 2, k - 1, k, min(k+1, n-1), n - 3, n - 2, n - 1}
}

// Of great counts what comes out of as many sums as there are to be is taken, and of one more or less nothing (P1, P16.1).
func TestGreatInclusion(t *testing.T) {
	entry := []byte("entry")
	for _, n := range great() {
		for _, i := range placesIn(n) {
			taken := 0
			for count := range 66 {
				p := sums(2, count)
				root, ok := upFrom(entrySum(entry), i, n, p)
				want := api.ErrProof
				if ok {
					taken, want = taken+1, api.OK
				}
				expectInclusion(t, "great", entry, i, n, p, root, want)
				expectInclusion(t, "great", entry, i, n, p, turned(root, 3), api.ErrProof)
			}
			if taken != 1 {
				t.Fatalf("%d in %d: %d counts of sums are taken", i, n, taken)
			}
		}
	}
}

// As TestGreatInclusion (P1, P16.1).
func TestGreatConsistency(t *testing.T) {
	for _, n := range great() {
		for _, m := range placesIn(n)[1:] {
			taken := 0
			for count := range 68 {
				p, old := sums(2, count), entrySum([]byte("old"))
				elder, younger, ok := upFromBoth(m, n, p, old)
				want := api.ErrProof
				if ok {
					taken, want = taken+1, api.OK
				}
				// Of a power of two the old root comes out of itself.
				expectConsistency(t, "great", m, n, p, elder, younger, want)
				expectConsistency(t, "great", m, n, p, elder, turned(younger, 3), api.ErrProof)
				expectConsistency(t, "great", m, n, p, turned(elder, 3), younger, api.ErrProof)
			}
			if taken != 1 {
				t.Fatalf("%d to %d: %d counts of sums are taken", m, n, taken)
			}
		}
	}
}

// Neither an entry nor sums are changed, their spare room neither (P16.3).
func TestChecksKeepOff(t *testing.T) {
	all := entries(20)
	entryRoom := slices.Concat([]byte("entry"), []byte("spare room"))
	for n := 1; n <= 20; n++ {
		for m := range n {
			for _, p := range [][][32]byte{pathOf(m, all[:n]), subOf(m, all[:n], true), sums(1, 9)} {
				room := append(slices.Clone(p), sums(3, 4)...)
				was := slices.Clone(room)
				root := sumOf(all[:n])
				rfclog.CheckInclusion(all[m], m, n, room[:len(p)], root)
				rfclog.CheckInclusion(entryRoom[:5], m, n, room[:len(p)], root)
				rfclog.CheckConsistency(m, n, room[:len(p)], sumOf(all[:m]), root)
				if !slices.Equal(room, was) || string(entryRoom) != "entryspare room" {
					t.Fatalf("%d, %d: what is handed in is changed", m, n)
				}
			}
		}
	}
}
