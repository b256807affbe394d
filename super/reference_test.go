package super_test

import (
	"crypto/ed25519"
	"crypto/sha256"
	"encoding/binary"
	"fmt"
	"math/rand"
	"slices"
	"testing"

	"custumal/api"
	"custumal/path"
	"custumal/proof"
	"custumal/rfclog"
	"custumal/super"
	"custumal/tree"
)

// What the chapter says, put together apart.

func keyText(id []byte) []byte { return append([]byte{5}, id...) }

func valueText(m super.Member) []byte {
	if m.Gone {
		return []byte{7}
	}
	return append(binary.BigEndian.AppendUint64([]byte{6}, uint64(m.Epoch)), m.Link[:]...)
}

func rootText(epoch int, root [32]byte) []byte {
	return append(binary.BigEndian.AppendUint64([]byte{8}, uint64(epoch)), root[:]...)
}

// leaves: one a member, of each id that of the last one, in the order of keys.
func leaves(l []super.Member) (all []tree.Leaf) {
	last := map[string]super.Member{}
	for _, m := range l {
		last[string(m.Id)] = m
	}
	for id, m := range last {
		all = append(all, tree.Leaf{Key: sha256.Sum256(keyText([]byte(id))), Value: sha256.Sum256(valueText(m))})
	}
	slices.SortFunc(all, func(a, b tree.Leaf) int { return slices.Compare(a.Key[:], b.Key[:]) })
	return all
}

// rootOf: the sum of leaves in the order of their keys, from a depth on.
func rootOf(depth int, l []tree.Leaf) [32]byte {
	switch len(l) {
	case 0:
		return sha256.Sum256([]byte{2})
	case 1:
		return sha256.Sum256(slices.Concat([]byte{0}, l[0].Key[:], l[0].Value[:]))
	}
	var sides [2][]tree.Leaf
	for _, leaf := range l {
		side := leaf.Key[depth/8] >> (7 - depth%8) & 1
		sides[side] = append(sides[side], leaf)
	}
	left, right := rootOf(depth+1, sides[0]), rootOf(depth+1, sides[1])
	return sha256.Sum256(slices.Concat([]byte{1, byte(depth >> 8), byte(depth)}, left[:], right[:]))
}

func signed(seed [32]byte, epoch int, root [32]byte) super.Signed {
	s := super.Signed{Epoch: epoch, Root: root}
	copy(s.Sig[:], ed25519.Sign(ed25519.NewKeyFromSeed(seed[:]), rootText(epoch, root)))
	return s
}

func publicOf(seed [32]byte) (public [32]byte) {
	copy(public[:], ed25519.NewKeyFromSeed(seed[:]).Public().(ed25519.PublicKey))
	return public
}

// A record is a Super told of by lists alone: the members of each super-epoch; or, where there was none, those of which Prove is.
type record struct {
	seed [32]byte
	list []super.Signed
	of   []super.Member
}

func (r *record) seal(l []super.Member) super.Signed {
	r.of = slices.Clone(l)
	r.list = append(r.list, signed(r.seed, len(r.list), rootOf(0, leaves(l))))
	return r.list[len(r.list)-1]
}

func (r *record) log() *rfclog.Log {
	l := &rfclog.Log{}
	for _, s := range r.list {
		l.Add(rootText(s.Epoch, s.Root))
	}
	return l
}

// expectRecord: all that is asked of a Super is as its record has it.
func expectRecord(t *testing.T, s *super.Super, r *record) {
	t.Helper()
	n := len(r.list)
	if s.Epochs() != n || s.Public() != publicOf(r.seed) {
		t.Errorf("%d super-epochs, public %x", s.Epochs(), s.Public())
	}
	for _, epoch := range []int{-1 << 63, -2, -1, 0, 1, n - 1, n, n + 1, 1<<63 - 1} {
		got, err := s.At(epoch)
		if epoch < 0 || epoch >= n {
			if got != (super.Signed{}) || err != api.ErrMiss {
				t.Errorf("At(%d) of %d: %+v, %v", epoch, n, got, err)
			}
		} else if got != r.list[epoch] || err != api.OK {
			t.Errorf("At(%d) of %d: %+v, %v", epoch, n, got, err)
		}
	}
	last, err := s.Last()
	if n == 0 && (last != super.Signed{} || err != api.ErrMiss) || n > 0 && (last != r.list[n-1] || err != api.OK) {
		t.Errorf("Last: %+v, %v", last, err)
	}
	expectProofs(t, s, r)
	expectLog(t, s, r)
}

// expectProofs: each member is proved, and that others are none, under the root of the last members.
func expectProofs(t *testing.T, s *super.Super, r *record) {
	t.Helper()
	all := leaves(r.of)
	root, made := rootOf(0, all), tree.Of(all)
	ids := [][]byte{nil, {0}, []byte("nobody"), make([]byte, 17)}
	for _, m := range r.of {
		ids = append(ids, m.Id)
	}
	for _, id := range ids {
		k := path.Key(sha256.Sum256(keyText(id)))
		got := s.Prove(id)
		if want := proof.Prove(made, k); fmt.Sprint(got) != fmt.Sprint(want) {
			t.Errorf("Prove(%q): %+v, not %+v", id, got, want)
		}
		value, there, err := proof.Check(root, k, got)
		i := slices.IndexFunc(all, func(l tree.Leaf) bool { return l.Key == k })
		if err != api.OK || there != (i >= 0) || there && value != all[i].Value {
			t.Errorf("Prove(%q) shows %x, %v, %v", id, value, there, err)
		}
	}
}

// expectLog: the log is that of the texts of all super-epochs; what it tells is taken.
func expectLog(t *testing.T, s *super.Super, r *record) {
	t.Helper()
	log, n := r.log(), len(r.list)
	for _, to := range []int{-1 << 63, -1, 0, 1, 2, n / 2, n - 1, n, n + 1, 1<<63 - 1} {
		root, err := s.LogRoot(to)
		wantRoot, wantErr := log.Root(to)
		if root != wantRoot || err != wantErr {
			t.Errorf("LogRoot(%d): %x, %v", to, root, err)
		}
		for _, from := range []int{-1 << 63, -1, 0, 1, to - 1, to, n / 3, n - 1, n, n + 1, 1<<63 - 1} {
			p, err := s.Inclusion(from, to)
			want, wantErr := log.Inclusion(from, to)
			if !slices.Equal(p, want) || err != wantErr {
				t.Errorf("Inclusion(%d, %d): %x, %v", from, to, p, err)
			}
			if err == api.OK && rfclog.CheckInclusion(rootText(from, r.list[from].Root), from, to, p, root) != api.OK {
				t.Errorf("Inclusion(%d, %d) isn't taken", from, to)
			}
			p, err = s.Consistency(from, to)
			if want, wantErr = log.Consistency(from, to); !slices.Equal(p, want) || err != wantErr {
				t.Errorf("Consistency(%d, %d): %x, %v", from, to, p, err)
			}
		}
	}
}

// member: one that stands at an epoch.
func member(id string, epoch int) super.Member {
	m := super.Member{Id: []byte(id), Epoch: epoch}
	rand.New(rand.NewSource(int64(epoch) + 1000*int64(len(id)))).Read(m.Link[:])
	return m
}

func gone(id string) super.Member { return super.Member{Id: []byte(id), Gone: true} }

// histories: the members of super-epochs, of many kinds.
func histories() [][][]super.Member {
	var many []super.Member
	for i := range 40 {
		many = append(many, member(fmt.Sprint("member ", i), i))
	}
	twice := []super.Member{member("a", 1), member("b", 2), member("a", 3), gone("b")}
	all := [][][]super.Member{
		nil,
		{nil},
		{{}, nil, {}},
		{{member("a", 0)}},
		{{gone("a")}},
		{{member("a", 1)}, {member("a", 1)}, {gone("a")}},
		{twice},
		{{gone("a"), member("a", 7)}},
		{{member("", 0), member("\x00", 1)}, {member("seventeen bytes !", 1<<40)}},
		{{member("a", -1), member("b", -1<<63), member("c", 1<<63-1), {}}},
		{many, twice, nil},
	}
	var long [][]super.Member
	for i := range 20 {
		long = append(long, many[i:2*i])
	}
	return append(all, long)
}
