package extract_test

import (
	"bytes"
	"encoding/binary"
	"fmt"
	"slices"
	"testing"

	"custumal/api"
	"custumal/chain"
	"custumal/commit"
	"custumal/direct"
	"custumal/extract"
	"custumal/host"
	"custumal/path"
	"custumal/proof"
	"custumal/sha2"
	"custumal/super"
	"custumal/tree"
	"custumal/verify"
	"custumal/wire"
)

// A scene is a host, and what it told of the tenant a.
type scene struct {
	t    *testing.T
	host *host.Host
}

var tenantA = []byte("a")

func newScene(t *testing.T) *scene {
	t.Helper()
	needWeakSums(t)
	t.Parallel()
	h, err := host.New([32]byte{9}, 6, 0)
	if err != api.OK {
		t.Fatal(err)
	}
	s := &scene{t, h}
	for _, id := range []string{"a", "b", "c", "d", "e"} {
		s.ask(wire.Request{Kind: wire.Create, Id: []byte(id), Limits: direct.Limits{Labels: 9, Pending: 9, Epochs: 20}, Period: 1})
	}
	for i := range 5 {
		for j := range 3 {
			s.ask(wire.Request{Kind: wire.Put, Id: tenantA, Label: []byte{'l' + byte((i+j)%4)}, Value: []byte{byte(i), byte(j)}})
		}
		h.Tick()
	}
	return s
}

func (s *scene) ask(r wire.Request) wire.Answer {
	s.t.Helper()
	a := s.host.Serve(r)
	if a.Err != api.OK {
		s.t.Fatalf("%+v: %v", r, a.Err)
	}
	return a
}

func (s *scene) look(at int) wire.Answer {
	s.t.Helper()
	return s.ask(wire.Request{Kind: wire.Lookup, Id: tenantA, Label: []byte("l"), From: at})
}

func (s *scene) stand() wire.Answer {
	s.t.Helper()
	return s.ask(wire.Request{Kind: wire.Standing, Id: tenantA})
}

// seen: what a client sees, that has to take it; and the answer's texts.
func (s *scene) seen(a wire.Answer) (verify.Seen, [][]byte) {
	s.t.Helper()
	var v verify.Seen
	var err api.Errno
	var texts [][]byte
	if a.Kind == wire.Standing {
		v, err = verify.Stand(s.host.Public(), tenantA, a)
		texts = extract.Stand(tenantA, a)
	} else {
		v, err = verify.Look(s.host.Public(), tenantA, []byte("l"), a)
		texts = extract.Look(tenantA, a)
	}
	if err != api.OK {
		s.t.Fatalf("it isn't taken: %v", err)
	}
	return v, texts
}

// unlike: is it what two honest answers never do?
func unlike(v, w verify.Seen) bool {
	if v.Root != w.Root {
		return false
	}
	if v.Gone != w.Gone || v.Epoch != w.Epoch || v.Link != w.Link {
		return true
	}
	return v.At == w.At && v.Index == w.Index && (v.Present != w.Present || v.Version != w.Version || !bytes.Equal(v.Value, w.Value))
}

// expectCaught: both are taken, say unlike things, and have two texts of one sum (P30.2).
func (s *scene) expectCaught(why string, a, b wire.Answer) {
	s.t.Helper()
	v, texts := s.seen(a)
	w, others := s.seen(b)
	if !unlike(v, w) {
		s.t.Errorf("%s: nothing unlike is said:\n%+v\n%+v", why, v, w)
	}
	expectFound(s.t, why, texts, others)
	expectFound(s.t, why+", the other way round", others, texts)
}

// expectFound: the first two, as each text against each tells them.
func expectFound(t *testing.T, why string, a, b [][]byte) {
	t.Helper()
	x, y, ok := extract.Find(a, b)
	if !ok {
		t.Errorf("%s: nothing is found", why)
		return
	}
	for _, one := range a {
		for _, other := range b {
			if sha2.Sum(one) == sha2.Sum(other) && !bytes.Equal(one, other) {
				if !bytes.Equal(x, one) || !bytes.Equal(y, other) {
					t.Errorf("%s: %x and %x are found, not %x and %x", why, x, y, one, other)
				}
				return
			}
		}
	}
	t.Errorf("%s: %x and %x are found, but aren't there", why, x, y)
}

// draw: a sum of a search.
func draw(n int) (sum [32]byte) {
	binary.BigEndian.PutUint64(sum[3:], uint64(n))
	sum[0] = 0xd3
	return sum
}

// search: the first of many draws by which it comes out.
func search(t *testing.T, why string, comes func(n int) bool) {
	t.Helper()
	for n := range 1 << 22 {
		if comes(n) {
			return
		}
	}
	t.Fatalf("%s: nothing comes out", why)
}

// climb: what comes out of a proof; down to a depth alone, if it is more than 0.
func climb(k path.Key, p proof.Proof, depth int) [32]byte {
	texts := proof.Texts(k, p)
	return sha2.Sum(texts[len(texts)-1-min(depth, len(p.Sums))])
}

func copyOf(a wire.Answer) wire.Answer {
	a.Found.Value = slices.Clone(a.Found.Value)
	a.Found.Proof.Sums = slices.Clone(a.Found.Proof.Sums)
	a.Later = slices.Clone(a.Later)
	a.Under.Proof.Sums = slices.Clone(a.Under.Proof.Sums)
	return a
}

// lie: another value of the label, bound.
func lie(a *wire.Answer, n int) {
	f := &a.Found
	f.Present, f.Version, f.Value = true, 7, fmt.Append(nil, "a lie ", n)
	f.Bound, f.Open = commit.Make([32]byte{1}, f.Index, f.Version, f.Value)
}

// ownTree: of that label alone; a root and a proof of it.
func ownTree(a *wire.Answer) {
	f := &a.Found
	f.Proof = proof.Proof{There: true, End: tree.Leaf{Key: f.Index, Value: f.Bound}}
	f.Root = tree.LeafSum(f.Proof.End)
}

// Values and versions that are opened of one bound value (P30.2).
func TestForgedValues(t *testing.T) {
	s := newScene(t)
	for _, at := range []int{1, 3, 5} {
		a := s.look(at)
		b := copyOf(a)
		b.Found.Value = []byte("a lie")
		f := &b.Found
		search(t, "another opening", func(n int) bool {
			f.Open = draw(n)
			return commit.Check(f.Bound, f.Open, f.Index, f.Version, f.Value) == api.OK
		})
		s.expectCaught("another opening", a, b)
		b = copyOf(a)
		f = &b.Found
		f.Version++
		search(t, "another opening of another version", func(n int) bool {
			f.Open = draw(n)
			return commit.Check(f.Bound, f.Open, f.Index, f.Version, f.Value) == api.OK
		})
		s.expectCaught("another opening of another version", a, b)
		c := copyOf(a)
		search(t, "the same opening", func(n int) bool {
			c.Found.Value = fmt.Append(nil, "a lie ", n)
			return commit.Check(f.Bound, c.Found.Open, f.Index, c.Found.Version, c.Found.Value) == api.OK
		})
		s.expectCaught("the same opening", a, c)
		s.expectCaught("two lies", b, c)
	}
}

// Unlike ends of one way down one root (P30.2).
func TestForgedProofs(t *testing.T) {
	s := newScene(t)
	for _, at := range []int{2, 4} {
		a := s.look(at)
		root, k := a.Found.Root, path.Key(a.Found.Index)
		b := copyOf(a)
		search(t, "another leaf", func(n int) bool {
			lie(&b, n)
			b.Found.Proof.End.Value = b.Found.Bound
			return climb(k, b.Found.Proof, 0) == root
		})
		s.expectCaught("another leaf", a, b)
		for depth := range a.Found.Proof.Sums {
			b := copyOf(a)
			lie(&b, depth)
			p := &b.Found.Proof
			p.End.Value = b.Found.Bound
			want := climb(k, a.Found.Proof, depth)
			search(t, "another sum", func(n int) bool {
				p.Sums[depth] = draw(n)
				return climb(k, *p, depth) == want
			})
			s.expectCaught(fmt.Sprintf("another sum at depth %d", depth), a, b)
		}
		for _, depth := range []int{1, 2, 5, 40} {
			for _, end := range []proof.Proof{{}, {There: true, End: tree.Leaf{Key: k.Flip(255), Value: draw(0)}}} {
				b := copyOf(a)
				b.Found.Present, b.Found.Proof = false, end
				b.Found.Proof.Sums = make([][32]byte, depth)
				search(t, "absent", func(n int) bool {
					b.Found.Proof.Sums[0] = draw(n)
					return climb(k, b.Found.Proof, 0) == root
				})
				s.expectCaught(fmt.Sprintf("absent, at depth %d, by a leaf %t", depth, end.There), a, b)
			}
		}
	}
	a := s.look(0)
	b := copyOf(a)
	lie(&b, 0)
	b.Found.Proof = proof.Proof{Sums: [][32]byte{{}}, There: true, End: tree.Leaf{Key: b.Found.Index, Value: b.Found.Bound}}
	search(t, "present at epoch 0", func(n int) bool {
		b.Found.Proof.Sums[0] = draw(n)
		return climb(b.Found.Index, b.Found.Proof, 0) == tree.Empty()
	})
	s.expectCaught("present at epoch 0", a, b)
}

// links: of a look and of all epochs behind it.
func links(a wire.Answer) (l [][32]byte) {
	f := a.Found
	l = append(l, f.Link)
	for i, root := range a.Later {
		l = append(l, chain.Next(tenantA, f.Epoch+1+i, root, l[i]))
	}
	return l
}

func relink(a *wire.Answer) { // its own link comes out of all else
	f := &a.Found
	f.Link = chain.Next(tenantA, f.Epoch, f.Root, f.Ahead)
}

// Unlike pasts that end in one link (P30.2).
func TestForgedChains(t *testing.T) {
	s := newScene(t)
	for _, at := range []int{1, 3, 5} {
		a := s.look(at)
		b := copyOf(a)
		lie(&b, 0)
		ownTree(&b)
		search(t, "a link", func(n int) bool {
			b.Found.Ahead = draw(n)
			relink(&b)
			return b.Found.Link == a.Found.Link
		})
		s.expectCaught(fmt.Sprintf("the link of epoch %d", at), a, b)
		for i := range a.Later {
			b := copyOf(a)
			lie(&b, 0)
			ownTree(&b)
			relink(&b)
			want := links(a)[i+1]
			search(t, "a later link", func(n int) bool {
				b.Later[i] = draw(n)
				return links(b)[i+1] == want
			})
			s.expectCaught(fmt.Sprintf("the link %d behind epoch %d", i, at), a, b)
		}
	}
}

// memberAt: how the tenant stands at the end of a look's chain.
func memberAt(a wire.Answer) super.Member {
	l := links(a)
	return super.Member{Id: tenantA, Epoch: a.Found.Epoch + len(a.Later), Link: l[len(l)-1]}
}

// lied: a look of another past, of as many epochs and some more.
func lied(a wire.Answer, more int) wire.Answer {
	b := copyOf(a)
	lie(&b, 0)
	ownTree(&b)
	b.Later = append(b.Later, make([][32]byte, more)...)
	return b
}

// Unlike epochs and links, and that it is gone, of one value under the super-root (P30.2).
func TestForgedMembers(t *testing.T) {
	s := newScene(t)
	honest := []wire.Answer{s.look(1), s.look(5), s.look(0), s.stand()}
	real := s.stand().Member
	want := super.Value(real)
	var forged []wire.Answer
	for _, at := range []int{2, 5} {
		a := s.look(at)
		var b wire.Answer
		search(t, "another end of the chain", func(n int) bool {
			if n%(1<<16) == 0 { // there are so few links that of some epochs none does
				b = lied(a, n>>16)
			}
			b.Found.Ahead = draw(n)
			relink(&b)
			m := memberAt(b)
			return super.Value(m) == want && m.Link != real.Link
		})
		forged = append(forged, b)
	}
	for epoch := range 3 {
		b := s.stand()
		b.Member.Epoch += epoch
		search(t, "another member", func(n int) bool {
			b.Member.Link = draw(n)
			return super.Value(b.Member) == want
		})
		forged = append(forged, b)
	}
	each(s, honest, forged)
}

// each: each two of unlike lists; and each two of the last ones, where they say unlike things.
func each(s *scene, honest, forged []wire.Answer) {
	s.t.Helper()
	for i, b := range forged {
		for j, a := range honest {
			s.expectCaught(fmt.Sprintf("lie %d, truth %d", i, j), a, b)
		}
		for j, c := range forged[:i] {
			v, _ := s.seen(b)
			w, _ := s.seen(c)
			if unlike(v, w) {
				s.expectCaught(fmt.Sprintf("lies %d and %d", i, j), b, c)
			}
		}
	}
}

// Unlike values of one tenant under the super-root (P30.2).
func TestForgedStandings(t *testing.T) {
	s := newScene(t)
	honest := []wire.Answer{s.look(1), s.look(5), s.look(0), s.stand()}
	way := s.stand().Under.Proof
	k := super.Key(tenantA)
	if len(way.Sums) == 0 {
		t.Fatal("the tenant's way has no sums")
	}
	var forged []wire.Answer
	for depth := range way.Sums {
		gone, look := s.stand(), lied(s.look(3), depth)
		gone.Member = super.Member{Id: tenantA, Gone: true}
		relink(&look)
		for _, b := range []*wire.Answer{&gone, &look} {
			m := b.Member
			if b.Kind == wire.Lookup {
				m = memberAt(*b)
			}
			p := &b.Under.Proof
			p.End.Value = super.Value(m)
			p.Sums = slices.Clone(way.Sums)
			want := climb(k, way, depth)
			search(t, "another sum", func(n int) bool {
				p.Sums[depth] = draw(n)
				return climb(k, *p, depth) == want
			})
			forged = append(forged, *b)
		}
	}
	leaf := lied(s.look(5), 0)
	search(t, "another leaf", func(n int) bool {
		leaf.Found.Ahead = draw(n)
		relink(&leaf)
		leaf.Under.Proof.End.Value = super.Value(memberAt(leaf))
		return leaf.Under.Proof.End.Value != way.End.Value && climb(k, leaf.Under.Proof, len(way.Sums)) == climb(k, way, len(way.Sums))
	})
	each(s, honest, append(forged, leaf))
}
