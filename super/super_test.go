package super_test

import (
	"bytes"
	"encoding/hex"
	"math"
	"slices"
	"strings"
	"testing"

	"custumal/api"
	"custumal/path"
	"custumal/proof"
	"custumal/super"
	"custumal/tree"
)

var seed = [32]byte{1, 2, 3, 31: 4}

// The chapter's example (P23.1).
func TestExample(t *testing.T) {
	s := super.New(seed)
	if got := s.Seal(nil); got.Epoch != 0 || got.Root != tree.Empty() || s.Epochs() != 1 {
		t.Errorf("%+v", got)
	}
}

// The texts and their sums are as the chapter says, of all ids, epochs and links (P23.1).
func TestTexts(t *testing.T) {
	link := [32]byte{}
	for i := range link {
		link[i] = byte(i)
	}
	const linkText = "000102030405060708090a0b0c0d0e0f101112131415161718191a1b1c1d1e1f"
	expect := func(got []byte, want string) {
		t.Helper()
		if hex.EncodeToString(got) != want {
			t.Errorf("%x, not %s", got, want)
		}
	}
	expect(super.KeyText(nil), "05")
	expect(super.KeyText([]byte{}), "05")
	expect(super.KeyText([]byte("ab\x00")), "05616200")
	expect(super.ValueText(super.Member{Id: []byte("a"), Epoch: 0x0102, Link: link}), "060000000000000102"+linkText)
	expect(super.ValueText(super.Member{Epoch: -1, Link: link}), "06ffffffffffffffff"+linkText)
	expect(super.ValueText(super.Member{Epoch: math.MaxInt, Link: link}), "067fffffffffffffff"+linkText)
	expect(super.ValueText(super.Member{Id: []byte("a"), Gone: true, Epoch: 5, Link: link}), "07")
	expect(super.Text(0, link), "080000000000000000"+linkText)
	expect(super.Text(0x0102030405060708, link), "080102030405060708"+linkText)
	expect(super.Text(math.MinInt, link), "088000000000000000"+linkText)
	for _, id := range []string{"", "a", "\xff\x00", "sixteen bytes id", "seventeen bytes !", strings.Repeat("long", 20000)} {
		for _, epoch := range []int{math.MinInt, -1, 0, 1, 255, 256, 1 << 32, math.MaxInt} {
			for _, m := range []super.Member{member(id, epoch), {Id: []byte(id), Gone: true, Epoch: epoch, Link: link}} {
				if !bytes.Equal(super.KeyText(m.Id), keyText(m.Id)) || !bytes.Equal(super.ValueText(m), valueText(m)) {
					t.Errorf("texts of %.20q, %d", id, epoch)
				}
				if super.Key(m.Id) != path.Key(sum(keyText(m.Id))) || super.Value(m) != sum(valueText(m)) {
					t.Errorf("sums of %.20q, %d", id, epoch)
				}
			}
			if !bytes.Equal(super.Text(epoch, link), rootText(epoch, link)) {
				t.Errorf("text of super-epoch %d", epoch)
			}
		}
	}
}

// A new Super is without a super-epoch; it proves that nobody is a member (P23.1).
func TestNew(t *testing.T) {
	for _, seed := range [][32]byte{{}, {1}, seed, sum(nil)} {
		expectRecord(t, super.New(seed), &record{seed: seed})
	}
	expectRecord(t, &super.Super{}, &record{})
}

// Super-epoch by super-epoch, the root is of the members handed in, signed and logged (P23.1, P23.2).
func TestSeal(t *testing.T) {
	for i, history := range histories() {
		s, r := super.New(seed), &record{seed: seed}
		for n, members := range history {
			got := s.Seal(members)
			if want := r.seal(members); got != want {
				t.Errorf("history %d, super-epoch %d: %+v, not %+v", i, n, got, want)
			}
			if err := super.Check(s.Public(), got); err != api.OK || got.Epoch != n {
				t.Errorf("history %d, super-epoch %d: Check: %v", i, n, err)
			}
			expectRecord(t, s, r)
		}
	}
}

// What was sealed is told alike, whatever is sealed behind it (P23.2).
func TestSuperEpochsStay(t *testing.T) {
	s := super.New(seed)
	var all []super.Signed
	for n := range 40 {
		all = append(all, s.Seal([]super.Member{member("a", n), gone("b")}))
		for epoch, want := range all {
			if got, err := s.At(epoch); got != want || err != api.OK {
				t.Errorf("At(%d) of %d: %+v, %v", epoch, n+1, got, err)
			}
		}
	}
}

// Of the same Id the last one counts, be it gone or not; the order of others is nothing (P23.1).
func TestOneIdTwice(t *testing.T) {
	for _, l := range [][]super.Member{
		{member("a", 1), member("a", 2)},
		{member("a", 1), gone("a")},
		{gone("a"), member("a", 1)},
		{gone("a"), member("a", 3), member("a", 1), member("a", 2)},
	} {
		s, last := super.New(seed), l[len(l)-1]
		root := s.Seal(slices.Concat(l, []super.Member{member("b", 1), member("c", 1)})).Root
		value, there, err := proof.Check(root, super.Key([]byte("a")), s.Prove([]byte("a")))
		if value != super.Value(last) || !there || err != api.OK {
			t.Errorf("%+v: %x, %v, %v", l, value, there, err)
		}
		if other := super.New(seed).Seal([]super.Member{member("c", 1), last, member("b", 1)}); other.Root != root {
			t.Errorf("%+v: another root than of the last one alone", l)
		}
	}
}

// Who is gone is a member like others, with a value of its own (P23.1).
func TestGone(t *testing.T) {
	s := super.New(seed)
	there := s.Seal([]super.Member{member("a", 0), member("b", 1)}).Root
	away := s.Seal([]super.Member{member("a", 0), gone("b")}).Root
	none := s.Seal([]super.Member{member("a", 0)}).Root
	if there == away || away == none || there == none {
		t.Error("one root of unlike members")
	}
	if super.Value(gone("a")) != super.Value(super.Member{Id: []byte("b"), Gone: true, Epoch: 9, Link: [32]byte{1}}) {
		t.Error("of one that is gone its epoch or link counts")
	}
}

// flipped: a super-epoch of which one bit is another.
func flipped(s super.Signed, bit int) super.Signed {
	if bit < 256 {
		s.Root[bit/8] ^= 1 << (bit % 8)
		return s
	}
	s.Sig[(bit-256)/8] ^= 1 << (bit % 8)
	return s
}

// Check takes what was signed, and that alone (P23.1, P23.2).
func TestCheck(t *testing.T) {
	s := super.New(seed)
	s.Seal(nil)
	e := s.Seal([]super.Member{member("a", 1)})
	public := publicOf(seed)
	if err := super.Check(public, e); err != api.OK {
		t.Error(err)
	}
	for bit := 0; bit < 256+512; bit += 7 {
		if err := super.Check(public, flipped(e, bit)); err != api.ErrSig {
			t.Errorf("bit %d: %v", bit, err)
		}
	}
	for _, epoch := range []int{math.MinInt, -1, 0, 2, 257, 1 << 32, math.MaxInt} {
		other := e
		other.Epoch = epoch
		if err := super.Check(public, other); err != api.ErrSig {
			t.Errorf("epoch %d: %v", epoch, err)
		}
		if err := super.Check(public, signed(seed, epoch, e.Root)); err != api.OK {
			t.Errorf("signed at %d: %v", epoch, err)
		}
	}
	if err := super.Check(publicOf([32]byte{9}), e); err != api.ErrSig {
		t.Error(err)
	}
	// The bytes 2 and noughts are no point's.
	if err := super.Check([32]byte{2}, e); err != api.ErrPoint {
		t.Error(err)
	}
	if err := super.Check(public, super.Signed{}); err != api.ErrSig {
		t.Error(err)
	}
}

// A Super restored is as the one whose super-epochs it has, and goes on as that (P23.1).
func TestRestore(t *testing.T) {
	for i, history := range histories() {
		s, r := super.New(seed), &record{seed: seed}
		var last []super.Member
		for _, members := range history {
			last = members
			s.Seal(members)
			r.seal(members)
		}
		again, err := super.Restore(seed, r.list, last)
		if err != api.OK || again == nil {
			t.Fatalf("history %d: %v", i, err)
		}
		expectRecord(t, again, r)
		for _, members := range [][]super.Member{{member("later", 3)}, nil} {
			want := r.seal(members)
			if a, b := again.Seal(members), s.Seal(members); a != want || b != want {
				t.Errorf("history %d goes on with %+v and %+v", i, a, b)
			}
			expectRecord(t, again, r)
		}
	}
}

// Of an empty list the members may be any; Prove is of them, till something is sealed (P23.1).
func TestRestoreOfNone(t *testing.T) {
	for _, history := range histories() {
		for _, members := range append(history, nil) {
			for _, list := range [][]super.Signed{nil, {}} {
				s, err := super.Restore(seed, list, members)
				if err != api.OK || s == nil {
					t.Fatal(err)
				}
				r := &record{seed: seed, of: members}
				expectRecord(t, s, r)
				if got, want := s.Seal(nil), r.seal(nil); got != want {
					t.Errorf("%+v, not %+v", got, want)
				}
				expectRecord(t, s, r)
			}
		}
	}
}

// A list whose epochs, signatures or last root are false is no Super's (P23.1).
func TestRestoreOfFalse(t *testing.T) {
	r := &record{seed: seed}
	for n := range 5 {
		r.seal([]super.Member{member("a", n), gone("b")})
	}
	expectFalse := func(why string, seed [32]byte, list []super.Signed, of []super.Member) {
		t.Helper()
		if s, err := super.Restore(seed, list, of); s != nil || err != api.ErrFalse {
			t.Errorf("%s: %v", why, err)
		}
	}
	other := signed([32]byte{9}, 0, [32]byte{})
	for n := range r.list {
		with := func(s super.Signed) []super.Signed {
			list := slices.Clone(r.list)
			list[n] = s
			return list
		}
		for _, epoch := range []int{math.MinInt, -1, n - 1, n + 1, 5, n + 1<<32, math.MaxInt} {
			expectFalse("an epoch signed", seed, with(signed(seed, epoch, r.list[n].Root)), r.of)
			e := r.list[n]
			e.Epoch = epoch
			expectFalse("an epoch", seed, with(e), r.of)
		}
		expectFalse("another's signature", seed, with(signed([32]byte{9}, n, r.list[n].Root)), r.of)
		expectFalse("another's", seed, with(other), r.of)
		expectFalse("nothing", seed, with(super.Signed{}), r.of)
		for _, bit := range []int{0, 255, 256, 511, 512, 767} {
			expectFalse("a bit", seed, with(flipped(r.list[n], bit)), r.of)
		}
		if n > 0 {
			expectFalse("the first ones are missing", seed, r.list[n:], r.of)
			expectFalse("one is there twice", seed, slices.Insert(slices.Clone(r.list), n, r.list[n]), r.of)
		}
		if n < 4 {
			expectFalse("one is missing", seed, slices.Delete(slices.Clone(r.list), n, n+1), r.of)
			expectFalse("the last ones are missing", seed, r.list[:n+1], r.of)
		}
		// Only of the last one the members are known.
		_, err := super.Restore(seed, with(signed(seed, n, [32]byte{1})), r.of)
		if want := map[bool]api.Errno{true: api.ErrFalse}[n == 4]; err != want {
			t.Errorf("another root at %d: %v", n, err)
		}
	}
	for _, of := range [][]super.Member{nil, {member("a", 4)}, {member("a", 3), gone("b")}, {member("a", 4), member("b", 0)}, {member("a", 4), gone("b"), gone("c")}, {member("A", 4), gone("b")}} {
		expectFalse("other members", seed, r.list, of)
	}
	expectFalse("another seed", [32]byte{9}, r.list, r.of)
	if _, err := super.Restore(seed, r.list, []super.Member{gone("b"), member("a", 9), member("a", 4)}); err != api.OK {
		t.Errorf("the same members, told otherwise: %v", err)
	}
}

// A nil Super: nothing, 0, ErrArg (P23.1, P1).
func TestNoSuper(t *testing.T) {
	var none *super.Super
	if none.Public() != [32]byte{} || none.Epochs() != 0 || none.Seal(nil) != (super.Signed{}) || none.Seal([]super.Member{member("a", 1)}) != (super.Signed{}) {
		t.Error("a nil Super has something")
	}
	if s, err := none.Last(); s != (super.Signed{}) || err != api.ErrArg {
		t.Error(s, err)
	}
	if p := none.Prove([]byte("a")); p.Sums != nil || p.There || p.End != (tree.Leaf{}) {
		t.Error(p)
	}
	for _, n := range []int{math.MinInt, -1, 0, 1, math.MaxInt} {
		if s, err := none.At(n); s != (super.Signed{}) || err != api.ErrArg {
			t.Error(s, err)
		}
		if root, err := none.LogRoot(n); root != [32]byte{} || err != api.ErrArg {
			t.Error(root, err)
		}
		for m := -1; m < 2; m++ {
			if p, err := none.Inclusion(m, n); p != nil || err != api.ErrArg {
				t.Error(p, err)
			}
			if p, err := none.Consistency(m, n); p != nil || err != api.ErrArg {
				t.Error(p, err)
			}
		}
	}
}
