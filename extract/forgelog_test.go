package extract_test

import (
	"fmt"
	"math/bits"
	"slices"
	"testing"

	"custumal/api"
	"custumal/extract"
	"custumal/proof"
	"custumal/rfclog"
	"custumal/sha2"
	"custumal/sign"
	"custumal/super"
	"custumal/tree"
	"custumal/verify"
	"custumal/wire"
)

var logSeed = [32]byte{11}

// rooted: how the tenant stands, by the n-th root of its own, as that super-epoch; without a log.
func rooted(epoch, n int) wire.Answer {
	m := super.Member{Id: tenantA, Epoch: n, Link: draw(epoch)}
	all := tree.Of([]tree.Leaf{{Key: super.Key(m.Id), Value: super.Value(m)}, {Key: super.Key([]byte("b")), Value: draw(n)}})
	a := wire.Answer{Kind: wire.Standing, Member: m}
	a.Under.Proof = proof.Prove(all, super.Key(m.Id))
	a.Under.Signed = super.Signed{Epoch: epoch, Root: all.Root(), Sig: sign.Sign(logSeed, super.Text(epoch, all.Root()))}
	return a
}

// entry: what the log has of it.
func entry(a wire.Answer) []byte { return super.Text(a.Under.Signed.Epoch, a.Under.Signed.Root) }

// included: the log's root that comes out of its sums: all entries ahead are to the left.
func included(a wire.Answer) [32]byte {
	sum := rfclog.EntrySum(entry(a))
	for _, left := range a.Under.Sums {
		sum = joined(left, sum)
	}
	return sum
}

func joined(left, right [32]byte) [32]byte { return sha2.Sum([]byte{1}, left[:], right[:]) }

// grown: the elder and the younger root that come out of sums, as SUB of m in n says.
func grown(m, n int, all bool, p [][32]byte, old [32]byte) (elder, younger [32]byte) {
	if m == n {
		if all {
			return old, old
		}
		return p[0], p[0]
	}
	k, last := 1<<(bits.Len(uint(n-1))-1), len(p)-1
	if m <= k {
		elder, younger = grown(m, k, all, p[:last], old)
		return elder, joined(younger, p[last])
	}
	elder, younger = grown(m-k, n-k, false, p[:last], old)
	return joined(p[last], elder), joined(p[last], younger)
}

// A face is what one who asks is told: an answer, and how its log goes on.
type face struct {
	a    wire.Answer
	sums [][32]byte
}

// honestFace: of a log of to entries, of which the root of a is one.
func honestFace(t *testing.T, a wire.Answer, to int) face {
	t.Helper()
	log := &rfclog.Log{}
	epoch := a.Under.Signed.Epoch
	for n := range to {
		if n == epoch {
			log.Add(entry(a))
		} else {
			log.Add(fmt.Append(nil, "entry ", n))
		}
	}
	a.Under.Sums, _ = log.Inclusion(epoch, epoch+1)
	a.Under.Log, _ = log.Root(epoch + 1)
	sums, err := log.Consistency(epoch+1, to)
	if err != api.OK {
		t.Fatal(err)
	}
	return face{a, sums}
}

// root: to which a face's log goes on.
func (f face) root(to int) [32]byte {
	_, younger := grown(f.a.Under.Signed.Epoch+1, to, true, f.sums, f.a.Under.Log)
	return younger
}

// expectCaught: both are taken, of one super-epoch and unlike super-roots, and go on to one root; they have two texts of one sum (P30.3).
func expectCaught(t *testing.T, why string, one, other face, to int) {
	t.Helper()
	root := one.root(to)
	for _, f := range []face{one, other} {
		s, err := verify.Stand(sign.Spread(logSeed).Public, tenantA, f.a)
		if err != api.OK {
			t.Fatalf("%s: it isn't taken: %v", why, err)
		}
		if err := verify.Grow(s.Super+1, to, f.a.Under.Log, wire.Answer{Kind: wire.Growth, Log: root, Sums: f.sums}); err != api.OK {
			t.Fatalf("%s: it doesn't go on: %v", why, err)
		}
	}
	if v, w := one.a.Under.Signed, other.a.Under.Signed; v.Epoch != w.Epoch || v.Root == w.Root {
		t.Fatalf("%s: nothing unlike is said", why)
	}
	texts, others := extract.Log(one.a, to, one.sums), extract.Log(other.a, to, other.sums)
	expectFound(t, why, texts, others)
	expectFound(t, why+", the other way round", others, texts)
}

// Two roots, whose entries have one sum (P30.3).
func TestForgedEntries(t *testing.T) {
	needWeakSums(t)
	t.Parallel()
	for epoch := range 9 {
		seen := map[[32]byte]wire.Answer{}
		var a, b wire.Answer
		search(t, "two entries", func(n int) bool {
			b = rooted(epoch, n)
			var there bool
			sum := rfclog.EntrySum(entry(b))
			a, there = seen[sum]
			seen[sum] = b
			return there && a.Under.Signed.Root != b.Under.Signed.Root
		})
		for to := epoch + 1; to < epoch+9; to++ {
			one, other := honestFace(t, a, to), honestFace(t, b, to)
			expectCaught(t, fmt.Sprintf("entry %d of %d", epoch, to), one, other, to)
		}
	}
}

// Two ways from unlike entries to one elder root (P30.3).
func TestForgedInclusions(t *testing.T) {
	needWeakSums(t)
	t.Parallel()
	for epoch := 1; epoch < 12; epoch++ {
		for _, to := range []int{epoch + 1, epoch + 2, epoch + 6} {
			one := honestFace(t, rooted(epoch, 0), to)
			for place := range one.a.Under.Sums {
				other := face{rooted(epoch, 1), one.sums}
				other.a.Under.Log, other.a.Under.Sums = one.a.Under.Log, slices.Clone(one.a.Under.Sums)
				search(t, "an inclusion", func(n int) bool {
					other.a.Under.Sums[place] = draw(n)
					return included(other.a) == other.a.Under.Log
				})
				expectCaught(t, fmt.Sprintf("entry %d of %d, sum %d", epoch, to, place), one, other, to)
			}
		}
	}
}

// Two elder roots that go on to one (P30.3).
func TestForgedGrowths(t *testing.T) {
	needWeakSums(t)
	t.Parallel()
	count := 0
	for epoch := range 10 {
		for to := epoch + 2; to < epoch+8; to++ {
			one := honestFace(t, rooted(epoch, 0), to)
			want := one.root(to)
			for place := range one.sums {
				other := face{rooted(epoch, 1), slices.Clone(one.sums)}
				for i := range place {
					other.sums[i] = draw(i)
				}
				other.a.Under.Sums = slices.Clone(one.a.Under.Sums)
				other.a.Under.Log = included(other.a)
				search(t, "a growth", func(n int) bool {
					other.sums[place] = draw(n)
					return other.root(to) == want && other.sums[place] != one.sums[place]
				})
				elder, _ := grown(epoch+1, to, true, other.sums, other.a.Under.Log)
				if elder != other.a.Under.Log { // the elder root is what the growth says: the entry's way is forged to it
					other.a.Under.Log = elder
					search(t, "an inclusion", func(n int) bool {
						other.a.Under.Sums[len(other.a.Under.Sums)-1] = draw(n)
						return included(other.a) == elder
					})
				}
				expectCaught(t, fmt.Sprintf("entry %d of %d, sum %d of the growth", epoch, to, place), one, other, to)
				count++
			}
		}
	}
	if count < 100 {
		t.Errorf("%d growths alone were forged", count)
	}
}
