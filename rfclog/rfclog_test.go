package rfclog_test

import (
	"encoding/hex"
	"math"
	"slices"
	"testing"

	"custumal/api"
	"custumal/rfclog"
)

func text(sum [32]byte) string { return hex.EncodeToString(sum[:]) }

func expectRoot(t *testing.T, l *rfclog.Log, n int, want [32]byte) {
	t.Helper()
	if got, err := l.Root(n); got != want || err != api.OK {
		t.Fatalf("Root(%d): %x, %v; not %x", n, got, err, want)
	}
}

// The roots that certificate logs' own tests have: of eight entries that are handed round for that (P16.1).
func TestKnownRoots(t *testing.T) {
	var l rfclog.Log
	for i, c := range []struct{ entry, root string }{
		{"", "6e340b9cffb37a989ca544e6bb780a2c78901d3fb33738768511a30617afa01d"},
		{"00", "fac54203e7cc696cf0dfcb42c92a1d9dbaf70ad9e621f4bd8d98662f00e3c125"},
		{"10", "aeb6bcfe274b70a14fb067a5e5578264db0fa9b51af5e0ba159158f329e06e77"},
		{"2021", "d37ee418976dd95753c1c73862b9398fa2a2cf9b4ff0fdfe8b30cd95209614b7"},
		{"3031", "4e3bbb1f7b478dcfe71fb631631519a3bca12c9aefca1612bfce4c13a86264d4"},
		{"40414243", "76e67dadbcdf1e10e1b74ddc608abd2f98dfb16fbce75277b5232a127f2087ef"},
		{"5051525354555657", "ddb89be403809e325750d3d263cd78929c2942b7942a34b77e122c9594a74c8c"},
		{"606162636465666768696a6b6c6d6e6f", "5dc9da79a70659a9ad559cb701ded9a2ab9d823aad2f4960cfe370eff4604328"},
	} {
		entry, _ := hex.DecodeString(c.entry)
		if got := l.Add(entry); got != i {
			t.Errorf("entry %d has the place %d", i, got)
		}
		if root, err := l.Root(i + 1); text(root) != c.root || err != api.OK {
			t.Errorf("of %d: %x, %v", i+1, root, err)
		}
	}
	const ofNothing = "e3b0c44298fc1c149afbf4c8996fb92427ae41e4649b934ca495991b7852b855"
	if root, err := l.Root(0); text(root) != ofNothing || err != api.OK {
		t.Errorf("of none: %x, %v", root, err)
	}
}

// The chapter's example (P16.1).
func TestExample(t *testing.T) {
	a, b, c := []byte("a"), []byte("b"), []byte("c")
	l := logOf([][]byte{a, b, c})
	p, err := l.Inclusion(2, 3)
	if want := pairSum(entrySum(a), entrySum(b)); err != api.OK || !slices.Equal(p, [][32]byte{want}) {
		t.Errorf("Inclusion: %x, %v", p, err)
	}
	p, err = l.Consistency(2, 3)
	if err != api.OK || !slices.Equal(p, [][32]byte{entrySum(c)}) {
		t.Errorf("Consistency: %x, %v", p, err)
	}
}

// Each entry gets the next place, and Len counts them; the roots of fewer entries stay (P16.1).
func TestAddAndRoot(t *testing.T) {
	var l rfclog.Log
	all := entries(270)
	if l.Len() != 0 {
		t.Errorf("Len of none: %d", l.Len())
	}
	expectRoot(t, &l, 0, sumOf(nil))
	for i, entry := range all {
		if got := l.Add(entry); got != i || l.Len() != i+1 {
			t.Fatalf("entry %d has the place %d of %d", i, got, l.Len())
		}
		if rfclog.EntrySum(entry) != entrySum(entry) {
			t.Fatalf("EntrySum of %x", entry)
		}
		for _, n := range []int{0, 1, 2, i / 2, i, i + 1} {
			if n <= i+1 {
				expectRoot(t, &l, n, sumOf(all[:n]))
			}
		}
	}
	for n := range 271 {
		expectRoot(t, &l, n, sumOf(all[:n]))
	}
}

// An entry of no bytes is one, nil or not (P16.1).
func TestEmptyEntries(t *testing.T) {
	if rfclog.EntrySum(nil) != entrySum(nil) || rfclog.EntrySum([]byte{}) != entrySum(nil) {
		t.Error("EntrySum of nothing")
	}
	l := logOf([][]byte{nil, {}, nil})
	if l.Len() != 3 {
		t.Errorf("Len %d", l.Len())
	}
	expectRoot(t, l, 3, sumOf(make([][]byte, 3)))
}

// sizes: of no entry, of one, of powers of two, of one less and one more, and others.
func sizes() (all []int) {
	for n := range 35 {
		all = append(all, n)
	}
	return append(all, 63, 64, 65, 100, 127, 128, 129)
}

// What Inclusion tells is PATH, and is taken under the root of as many (P16.1, P16.2).
func TestInclusion(t *testing.T) {
	all := entries(129)
	l := logOf(all)
	for _, n := range sizes() {
		root := sumOf(all[:n])
		for i := range n {
			p, err := l.Inclusion(i, n)
			if want := pathOf(i, all[:n]); err != api.OK || !slices.Equal(p, want) {
				t.Fatalf("Inclusion(%d, %d): %x, %v; not %x", i, n, p, err, want)
			}
			if err := rfclog.CheckInclusion(all[i], i, n, p, root); err != api.OK {
				t.Fatalf("%d in %d: %v", i, n, err)
			}
			if want := inclusionVerdict(all[i], i, n, p, root); want != api.OK {
				t.Fatalf("%d in %d: the test's own verdict is %v", i, n, want)
			}
		}
	}
}

// What Consistency tells is SUB, and is taken with both roots (P16.1, P16.2).
func TestConsistency(t *testing.T) {
	all := entries(129)
	l := logOf(all)
	for _, n := range sizes() {
		for m := range n + 1 {
			p, err := l.Consistency(m, n)
			if want := subOf(m, all[:n], true); err != api.OK || !slices.Equal(p, want) {
				t.Fatalf("Consistency(%d, %d): %x, %v; not %x", m, n, p, err, want)
			}
			if err := rfclog.CheckConsistency(m, n, p, sumOf(all[:m]), sumOf(all[:n])); err != api.OK {
				t.Fatalf("%d to %d: %v", m, n, err)
			}
			if want := consistencyVerdict(m, n, p, sumOf(all[:m]), sumOf(all[:n])); want != api.OK {
				t.Fatalf("%d to %d: the test's own verdict is %v", m, n, want)
			}
		}
	}
}

// Places and counts that a log doesn't have are ErrArg, and nothing beside it (P16.1).
func TestWrongNumbers(t *testing.T) {
	var none *rfclog.Log
	for _, l := range []*rfclog.Log{none, {}, logOf(entries(1)), logOf(entries(2)), logOf(entries(5)), logOf(entries(8))} {
		has := l.Len()
		numbers := []int{math.MinInt, math.MinInt + 1, -1 << 32, -2, -1, 0, 1, has - 1, has, has + 1, has + 2, 2 * has, 1 << 32, 1 << 62, math.MaxInt - 1, math.MaxInt}
		for _, n := range numbers {
			if root, err := l.Root(n); (n < 0 || n > has) && (root != [32]byte{} || err != api.ErrArg) {
				t.Errorf("of %d: Root(%d): %x, %v", has, n, root, err)
			}
			for _, m := range numbers {
				p, err := l.Inclusion(m, n)
				if wrong := n < 1 || n > has || m < 0 || m >= n; wrong && (len(p) > 0 || err != api.ErrArg) || !wrong && err != api.OK {
					t.Errorf("of %d: Inclusion(%d, %d): %x, %v", has, m, n, p, err)
				}
				p, err = l.Consistency(m, n)
				if wrong := n < 0 || n > has || m < 0 || m > n; wrong && (len(p) > 0 || err != api.ErrArg) || !wrong && l != nil && err != api.OK {
					t.Errorf("of %d: Consistency(%d, %d): %x, %v", has, m, n, p, err)
				}
			}
		}
	}
}

// A nil log takes nothing, and has nothing (P16.1).
func TestNilLog(t *testing.T) {
	var l *rfclog.Log
	for range 3 {
		if got := l.Add([]byte("a")); got != -1 {
			t.Errorf("Add: %d", got)
		}
		if l.Len() != 0 {
			t.Errorf("Len: %d", l.Len())
		}
	}
}

// Neither an entry nor its spare room is changed or kept, and answers are new memory (P16.3).
func TestLogKeepsOff(t *testing.T) {
	all := entries(21)
	var l rfclog.Log
	room := make([]byte, 0, 300)
	for _, entry := range all {
		room = append(room[:0], entry...)
		was := slices.Clone(room[:cap(room)])
		l.Add(room)
		rfclog.EntrySum(room)
		if !slices.Equal(room[:cap(room)], was) {
			t.Fatal("an entry is changed")
		}
		// The next one stands in the same memory.
		clear(room[:cap(room)])
	}
	for range 2 {
		for n := range 22 {
			expectRoot(t, &l, n, sumOf(all[:n]))
			for i := range n + 1 {
				p, _ := l.Consistency(i, n)
				if !slices.Equal(p, subOf(i, all[:n], true)) {
					t.Fatalf("Consistency(%d, %d) is another one", i, n)
				}
				spoil(p)
				if i < n {
					p, _ = l.Inclusion(i, n)
					if !slices.Equal(p, pathOf(i, all[:n])) {
						t.Fatalf("Inclusion(%d, %d) is another one", i, n)
					}
					spoil(p)
				}
			}
		}
	}
}

// spoil: other bytes, up to the end of the list's room.
func spoil(p [][32]byte) {
	p = p[:cap(p)]
	for i := range p {
		p[i] = [32]byte{0xee}
	}
}

// Answers that are held while others are asked for, and while the log grows, stay (P16.3).
func TestAnswersStay(t *testing.T) {
	all := entries(40)
	l := logOf(all[:20])
	var first, second [][][32]byte
	for i := range 20 {
		p, _ := l.Inclusion(i, 20)
		q, _ := l.Consistency(i, 20)
		first, second = append(first, p), append(second, q)
	}
	for _, entry := range all[20:] {
		l.Add(entry)
		l.Root(l.Len())
		l.Inclusion(3, l.Len())
		l.Consistency(3, l.Len())
	}
	for i := range 20 {
		if !slices.Equal(first[i], pathOf(i, all[:20])) || !slices.Equal(second[i], subOf(i, all[:20], true)) {
			t.Errorf("what was told of %d is another thing", i)
		}
	}
}

// Two logs know nothing of each other (P16.1).
func TestTwoLogs(t *testing.T) {
	var a, b rfclog.Log
	all := entries(30)
	for i, entry := range all {
		a.Add(entry)
		b.Add(all[29-i])
		b.Root(b.Len())
	}
	slices.Reverse(all)
	expectRoot(t, &b, 30, sumOf(all))
	slices.Reverse(all)
	expectRoot(t, &a, 30, sumOf(all))
}
