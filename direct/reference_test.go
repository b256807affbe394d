package direct_test

import (
	"crypto/hmac"
	"crypto/sha256"
	"encoding/binary"
	"fmt"
	"math"
	"slices"
	"testing"

	"custumal/api"
	"custumal/direct"
	"custumal/proof"
	"custumal/sign"
	"custumal/tree"
	"custumal/vrf"
)

// A book is a directory told of by lists alone: what waits, and what was put in each epoch, of epoch 0 nothing. All else is worked out from them; an epoch's tree and link once, as that takes long.
type book struct {
	id     []byte
	keys   direct.Keys
	limits direct.Limits
	made   [][]direct.Pair
	waits  []direct.Pair
	trees  []*tree.Tree
	links  [][32]byte
}

func (b *book) last() int { return len(b.made) - 1 }

// labels: all that were put, also by puts that wait, in the order in which they came.
func (b *book) labels() (all []string) {
	for _, p := range slices.Concat(slices.Concat(b.made...), b.waits) {
		if !slices.Contains(all, string(p.Label)) {
			all = append(all, string(p.Label))
		}
	}
	return all
}

func (b *book) put(label, value []byte) api.Errno {
	if len(label) == 0 || len(label) > 32 || len(value) > 64 {
		return api.ErrArg
	}
	labels := b.labels()
	if len(b.waits) == b.limits.Pending || len(labels) == b.limits.Labels && !slices.Contains(labels, string(label)) {
		return api.ErrQuota
	}
	b.waits = append(b.waits, direct.Pair{Label: slices.Clone(label), Value: slices.Clone(value)})
	return api.OK
}

func (b *book) seal() (int, api.Errno) {
	if b.last() == b.limits.Epochs {
		return 0, api.ErrQuota
	}
	b.made, b.waits = append(b.made, b.waits), nil
	b.trees = append(b.trees, b.tree())
	b.links = append(b.links, b.link())
	return b.last(), api.OK
}

// versions: those of a label that were made up to an epoch.
func (b *book) versions(label string, epoch int) (all []direct.Entry) {
	for e, puts := range b.made[:epoch+1] {
		for _, p := range puts {
			if string(p.Label) == label {
				all = append(all, direct.Entry{Epoch: e, Version: len(all) + 1, Value: p.Value})
			}
		}
	}
	return all
}

// tree: of all that was made.
func (b *book) tree() *tree.Tree {
	var leaves []tree.Leaf
	for _, label := range b.labels() {
		if all := b.versions(label, b.last()); len(all) > 0 {
			index := shown(b.keys.Vrf, label).index
			bound, _ := bind(b.keys.Bind, index, all[len(all)-1])
			leaves = append(leaves, tree.Leaf{Key: index, Value: bound})
		}
	}
	return tree.Of(leaves)
}

// link: that of the last epoch, on those ahead.
func (b *book) link() [32]byte {
	if b.last() == 0 {
		return sha256.Sum256(append([]byte{4}, b.id...))
	}
	text := append(binary.BigEndian.AppendUint16([]byte{3}, uint16(len(b.id))), b.id...)
	root, ahead := b.trees[b.last()].Root(), b.links[b.last()-1]
	return sha256.Sum256(slices.Concat(binary.BigEndian.AppendUint64(text, uint64(b.last())), root[:], ahead[:]))
}

func (b *book) lookup(label []byte, epoch int) (f direct.Found, _ api.Errno) {
	if len(label) == 0 || len(label) > 32 {
		return f, api.ErrArg
	}
	if epoch == -1 {
		epoch = b.last()
	}
	if epoch < 0 || epoch > b.last() {
		return f, api.ErrMiss
	}
	is := shown(b.keys.Vrf, string(label))
	made := b.trees[epoch]
	_, _, reads := made.Get(is.index)
	f = direct.Found{
		Epoch: epoch, Index: is.index, Vrf: is.proof, Proof: proof.Prove(made, is.index),
		Root: made.Root(), Link: b.links[epoch], Reads: reads,
	}
	if epoch > 0 {
		f.Ahead = b.links[epoch-1]
	}
	if all := b.versions(string(label), epoch); len(all) > 0 {
		newest := all[len(all)-1]
		f.Present, f.Version, f.Value = true, newest.Version, newest.Value
		f.Bound, f.Open = bind(b.keys.Bind, is.index, newest)
	}
	return f, api.OK
}

func (b *book) history(label []byte) ([]direct.Entry, api.Errno) {
	if len(label) == 0 || len(label) > 32 {
		return nil, api.ErrArg
	}
	all := b.versions(string(label), b.last())
	if len(all) == 0 {
		return nil, api.ErrMiss
	}
	return all, api.OK
}

func (b *book) audit(from, to int) (all []direct.Mark, _ api.Errno) {
	if from < 0 || from > to || to > b.last() {
		return nil, api.ErrMiss
	}
	for e := from; e <= to; e++ {
		all = append(all, direct.Mark{Epoch: e, Root: b.trees[e].Root(), Link: b.links[e]})
	}
	return all, api.OK
}

func (b *book) puts(epoch int) ([]direct.Pair, api.Errno) {
	if epoch < 0 || epoch > b.last() {
		return nil, api.ErrMiss
	}
	return b.made[epoch], api.OK
}

// bind: what binds a version, and what opens it.
func bind(key, index [32]byte, e direct.Entry) (bound, open [32]byte) {
	mark := func(key [32]byte, parts ...[]byte) [32]byte {
		h := hmac.New(sha256.New, key[:])
		h.Write(slices.Concat(parts...))
		return [32]byte(h.Sum(nil))
	}
	version := binary.BigEndian.AppendUint64(nil, uint64(e.Version))
	open = mark(key, []byte("open"), index[:], version)
	return mark(open, index[:], version, e.Value), open
}

// indexed is a label's proof, and its index.
type indexed struct {
	proof [vrf.Size]byte
	index [32]byte
}

// proved: each is worked out once, as that takes long.
var proved = map[string]indexed{}

func shown(seed [32]byte, label string) indexed {
	name := string(seed[:]) + label
	if _, there := proved[name]; !there {
		p, err := vrf.Prove(seed, []byte(label))
		sum, other := vrf.Check(sign.Spread(seed).Public, []byte(label), p)
		if err != api.OK || other != api.OK {
			panic("a label without a proof")
		}
		proved[name] = indexed{p, [32]byte(sum[:32])}
	}
	return proved[name]
}

// open: a directory, and the book of it.
func open(t *testing.T, id string, k direct.Keys, l direct.Limits) (*direct.Directory, *book) {
	t.Helper()
	d, err := direct.New([]byte(id), k, l)
	if err != api.OK || d == nil {
		t.Fatalf("New(%q, %v): %v", id, l, err)
	}
	b := &book{id: []byte(id), keys: k, limits: l, made: [][]direct.Pair{nil}, trees: []*tree.Tree{nil}}
	b.links = append(b.links, b.link())
	return d, b
}

// put, seal: what both answer has to be the same.
func put(t *testing.T, d *direct.Directory, b *book, label, value string) api.Errno {
	t.Helper()
	want := b.put([]byte(label), []byte(value))
	if got := d.Put([]byte(label), []byte(value)); got != want {
		t.Fatalf("Put(%.40q, %.70q): %v, not %v", label, value, got, want)
	}
	return want
}

func seal(t *testing.T, d *direct.Directory, b *book) api.Errno {
	t.Helper()
	want, wantErr := b.seal()
	if got, err := d.Seal(); got != want || err != wantErr {
		t.Fatalf("Seal: %d, %v; not %d, %v", got, err, want, wantErr)
	}
	return wantErr
}

// said: an answer as text, in which nil and empty lists are one.
func said(parts ...any) string { return fmt.Sprintf("%+x", parts) }

func expect(t *testing.T, why, got, want string) {
	t.Helper()
	if got != want {
		t.Fatalf("%s:\n%.3000s\nnot\n%.3000s", why, got, want)
	}
}

// expectBook: all that a directory tells of labels is what the book says.
func expectBook(t *testing.T, d *direct.Directory, b *book, labels ...string) {
	t.Helper()
	expectPlain(t, d, b)
	epochs := []int{math.MinInt, -3, -2, -1, b.last() + 1, b.last() + 2, math.MaxInt}
	for e := range b.last() + 1 {
		epochs = append(epochs, e)
	}
	for _, e := range epochs {
		got, err := d.Made(e)
		want, wantErr := b.puts(e)
		expect(t, fmt.Sprint("Made ", e), said(got, err), said(want, wantErr))
		for _, to := range epochs {
			got, err := d.Audit(e, to)
			want, wantErr := b.audit(e, to)
			expect(t, fmt.Sprint("Audit ", e, to), said(got, err), said(want, wantErr))
		}
	}
	for _, label := range labels {
		got, err := d.History([]byte(label))
		want, wantErr := b.history([]byte(label))
		expect(t, fmt.Sprintf("History %.40q", label), said(got, err), said(want, wantErr))
		for _, e := range epochs {
			got, err := d.Lookup([]byte(label), e)
			want, wantErr := b.lookup([]byte(label), e)
			expect(t, fmt.Sprintf("Lookup %.40q, %d", label, e), said(got, err), said(want, wantErr))
		}
	}
}

// expectPlain: what it tells without a question.
func expectPlain(t *testing.T, d *direct.Directory, b *book) {
	t.Helper()
	got := said(d.Id(), d.Keys(), d.Limits(), d.Public(), d.Epoch(), d.Waiting(), d.Labels(), d.Waits())
	want := said(b.id, b.keys, b.limits, sign.Spread(b.keys.Vrf).Public, b.last(), len(b.waits), len(b.labels()), b.waits)
	expect(t, "as it stands", got, want)
}
