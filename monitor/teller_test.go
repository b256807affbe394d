package monitor_test

import (
	"fmt"
	"slices"
	"testing"

	"custumal/api"
	"custumal/chain"
	"custumal/direct"
	"custumal/proof"
	"custumal/rfclog"
	"custumal/sign"
	"custumal/super"
	"custumal/tree"
	"custumal/verify"
	"custumal/wire"
)

// A teller is one who has a host's seed, and tells what it wants: how a tenant stands, super-epoch by super-epoch, and the tenant's epochs.
type teller struct {
	t     *testing.T
	id    []byte
	tops  []super.Signed
	under []super.Member
	marks []direct.Mark // one behind the other, from the epoch of the first one on
}

var seed = [32]byte{7, 31: 7}

func public() [32]byte { return sign.Spread(seed).Public }

// newTeller: of a tenant whose epochs begin so, without a super-epoch.
func newTeller(t *testing.T, epoch int) *teller {
	w := &teller{t: t, id: []byte("tenant")}
	w.marks = []direct.Mark{{Epoch: epoch, Root: tree.Empty(), Link: chain.First(w.id)}}
	return w
}

// fork: another teller, of the same past.
func (w *teller) fork() *teller {
	other := *w
	other.tops, other.under, other.marks = slices.Clone(w.tops), slices.Clone(w.under), slices.Clone(w.marks)
	return &other
}

func (w *teller) last() direct.Mark { return w.marks[len(w.marks)-1] }

// seal: the tenant's next epoch, by a root of that name.
func (w *teller) seal(name string) {
	m := direct.Mark{Epoch: w.last().Epoch + 1}
	copy(m.Root[:], name)
	m.Link = chain.Next(w.id, m.Epoch, m.Root, w.last().Link)
	w.marks = append(w.marks, m)
}

// tick: the next super-epoch, over the tenant as it stands, or as one that is gone.
func (w *teller) tick(gone bool) {
	m := super.Member{Id: w.id, Gone: gone}
	if !gone {
		m.Epoch, m.Link = w.last().Epoch, w.last().Link
	}
	w.tickAs(m)
}

func (w *teller) tickAs(m super.Member) {
	w.under = []super.Member{m, {Id: []byte("other"), Epoch: len(w.tops)}, {Id: []byte("third"), Epoch: 5}}
	root := w.tree().Root()
	w.tops = append(w.tops, super.Signed{Epoch: len(w.tops), Root: root, Sig: sign.Sign(seed, super.Text(len(w.tops), root))})
}

// next: an epoch of the tenant, and a super-epoch.
func (w *teller) next(name string) {
	w.seal(name)
	w.tick(false)
}

func (w *teller) tree() *tree.Tree {
	var all *tree.Tree
	for _, m := range w.under {
		all = all.Put(tree.Leaf{Key: super.Key(m.Id), Value: super.Value(m)})
	}
	return all
}

func (w *teller) log() *rfclog.Log {
	l := &rfclog.Log{}
	for _, s := range w.tops {
		l.Add(super.Text(s.Epoch, s.Root))
	}
	return l
}

func (w *teller) stand() wire.Answer {
	n := len(w.tops)
	a := wire.Answer{Kind: wire.Standing, Member: w.under[0]}
	a.Under.Proof = proof.Prove(w.tree(), super.Key(w.id))
	a.Under.Signed = w.tops[n-1]
	a.Under.Log, _ = w.log().Root(n)
	a.Under.Sums, _ = w.log().Inclusion(n-1, n)
	return a
}

func (w *teller) growth(from, to int) wire.Answer {
	w.t.Helper()
	a := wire.Answer{Kind: wire.Growth}
	var err api.Errno
	if a.Sums, err = w.log().Consistency(from, to); err != api.OK {
		w.t.Fatal(err)
	}
	a.Log, _ = w.log().Root(to)
	return a
}

// audit: from an epoch on to the last one.
func (w *teller) audit(from int) wire.Answer {
	return wire.Answer{Kind: wire.Audit, Marks: slices.Clone(w.marks[from-w.marks[0].Epoch:])}
}

// seen: what is seen of how the tenant stands now.
func (w *teller) seen() verify.Seen {
	s := w.tops[len(w.tops)-1]
	m := w.under[0]
	if m.Gone {
		return verify.Seen{Super: s.Epoch, Root: s.Root, Gone: true}
	}
	return verify.Seen{Super: s.Epoch, Root: s.Root, Epoch: m.Epoch, Link: m.Link}
}

// said: as text, in which nil and empty lists are one.
func said(parts ...any) string { return fmt.Sprintf("%+x", parts) }

// copyOf: an answer that shares nothing with this one.
func copyOf(a wire.Answer) wire.Answer {
	a.Member.Id = slices.Clone(a.Member.Id)
	a.Under.Proof.Sums = slices.Clone(a.Under.Proof.Sums)
	a.Under.Sums = slices.Clone(a.Under.Sums)
	a.Marks = slices.Clone(a.Marks)
	a.Sums = slices.Clone(a.Sums)
	return a
}
