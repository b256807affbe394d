package verify_test

import (
	"crypto/ed25519"
	"crypto/hmac"
	"crypto/sha256"
	"encoding/binary"
	"fmt"
	"math/bits"
	"slices"
	"testing"

	"custumal/api"
	"custumal/path"
	"custumal/proof"
	"custumal/super"
	"custumal/tree"
	"custumal/verify"
	"custumal/vrf"
	"custumal/wire"
)

// A tale is what a host tells of a tenant and of a label, put together by hand, of whatever numbers: sums, marks and signatures are those of the library.
type tale struct {
	id, label []byte
	epoch     int // of the look
	ahead     [32]byte
	leaves    []tree.Leaf // of other labels
	present   bool
	version   int
	value     []byte
	later     [][32]byte
	top       int // the super-epoch
	others    []super.Member
}

var seed, vrfSeed, open = sumOf("seed"), sumOf("vrf"), sumOf("open")

func sumOf(parts ...string) [32]byte {
	h := sha256.New()
	for _, p := range parts {
		h.Write([]byte(p))
	}
	return [32]byte(h.Sum(nil))
}

// text: bytes of a sum as a text.
func text(sum [32]byte) string { return string(sum[:]) }

func number(n int) string { return string(binary.BigEndian.AppendUint64(nil, uint64(n))) }

func publicOf(seed [32]byte) [32]byte {
	return [32]byte(ed25519.NewKeyFromSeed(seed[:]).Public().(ed25519.PublicKey))
}

func nextLink(id []byte, epoch int, root, ahead [32]byte) [32]byte {
	count := string(binary.BigEndian.AppendUint16(nil, uint16(len(id))))
	return sumOf("\x03", count, string(id), number(epoch), text(root), text(ahead))
}

func valueOf(m super.Member) [32]byte {
	if m.Gone {
		return sumOf("\x07")
	}
	return sumOf("\x06", number(m.Epoch), text(m.Link))
}

func rootText(epoch int, root [32]byte) string { return "\x08" + number(epoch) + text(root) }

func signed(seed [32]byte, epoch int, root [32]byte) super.Signed {
	s := super.Signed{Epoch: epoch, Root: root}
	copy(s.Sig[:], ed25519.Sign(ed25519.NewKeyFromSeed(seed[:]), []byte(rootText(epoch, root))))
	return s
}

// lastWay: some sums beside the way of the last of n entries, and the root that comes out.
func lastWay(entry string, n int) (p [][32]byte, root [32]byte) {
	if n == 1 {
		return nil, sumOf("\x00", entry)
	}
	k := 1 << (bits.Len(uint(n-1)) - 1)
	left := sumOf("the first", number(k))
	p, right := lastWay(entry, n-k)
	return append(p, left), sumOf("\x01", text(left), text(right))
}

// underOf: a tenant among others, under a root of that number that is signed, and logged.
func underOf(m super.Member, others []super.Member, top int) (u wire.Under) {
	leaves := []tree.Leaf{{Key: sumOf("\x05", string(m.Id)), Value: valueOf(m)}}
	for _, o := range others {
		leaves = append(leaves, tree.Leaf{Key: sumOf("\x05", string(o.Id)), Value: valueOf(o)})
	}
	all := tree.Of(leaves)
	u.Proof = proof.Prove(all, leaves[0].Key)
	u.Signed = signed(seed, top, all.Root())
	u.Sums, u.Log = lastWay(rootText(top, all.Root()), top+1)
	return u
}

func boundOf(index [32]byte, version int, value []byte) (bound [32]byte) {
	h := hmac.New(sha256.New, open[:])
	h.Write([]byte(text(index) + number(version) + string(value)))
	return [32]byte(h.Sum(nil))
}

// look: the answer to a look, and what it shows.
func (s tale) look(t *testing.T) (a wire.Answer, seen verify.Seen) {
	t.Helper()
	a.Kind = wire.Lookup
	a.Public = publicOf(vrfSeed)
	f := &a.Found
	var err api.Errno
	if f.Vrf, err = vrf.Prove(vrfSeed, s.label); err != api.OK {
		t.Fatal(err)
	}
	sum, _ := vrf.Sum(f.Vrf)
	f.Index = [32]byte(sum[:32])
	leaves := slices.Clone(s.leaves)
	if s.present {
		f.Present, f.Version, f.Value, f.Open = true, s.version, s.value, open
		f.Bound = boundOf(f.Index, f.Version, f.Value)
		leaves = append(leaves, tree.Leaf{Key: f.Index, Value: f.Bound})
	}
	all := tree.Of(leaves)
	f.Epoch, f.Root, f.Proof = s.epoch, all.Root(), proof.Prove(all, f.Index)
	f.Ahead, f.Link = s.ahead, nextLink(s.id, s.epoch, f.Root, s.ahead)
	if s.epoch == 0 {
		f.Ahead, f.Link = [32]byte{}, sumOf("\x04", string(s.id))
	}
	m := super.Member{Id: s.id, Epoch: s.epoch, Link: f.Link}
	for _, root := range s.later {
		a.Later = append(a.Later, root)
		m.Epoch++
		m.Link = nextLink(s.id, m.Epoch, root, m.Link)
	}
	a.Under = underOf(m, s.others, s.top)
	seen = verify.Seen{Super: s.top, Root: a.Under.Signed.Root, Epoch: m.Epoch, Link: m.Link, At: s.epoch, Index: f.Index}
	if s.present {
		seen.Present, seen.Version, seen.Value = true, s.version, s.value
	}
	return a, seen
}

// standing: the answer to how one stands, and what it shows.
func standing(m super.Member, others []super.Member, top int) (a wire.Answer, seen verify.Seen) {
	a = wire.Answer{Kind: wire.Standing, Member: m, Under: underOf(m, others, top)}
	seen = verify.Seen{Super: top, Root: a.Under.Signed.Root, Gone: m.Gone}
	if !m.Gone {
		seen.Epoch, seen.Link = m.Epoch, m.Link
	}
	return a, seen
}

// some: as many other members.
func some(count int) (l []super.Member) {
	for i := range count {
		l = append(l, super.Member{Id: fmt.Appendf(nil, "other %d", i), Gone: i%3 == 2, Epoch: i, Link: sumOf(fmt.Sprint(i))})
	}
	return l
}

// labels: as many leaves of other labels; the first ones stand close to an index.
func labels(count int, near [32]byte) (l []tree.Leaf) {
	for i := range count {
		l = append(l, tree.Leaf{Key: sumOf("label", fmt.Sprint(i)), Value: sumOf("bound", fmt.Sprint(i))})
	}
	for i := range min(count, 3) {
		l[i].Key = path.Key(near).Flip(2 * i)
	}
	return l
}

func sums(count int) (l [][32]byte) {
	for i := range count {
		l = append(l, sumOf("sum", fmt.Sprint(i)))
	}
	return l
}

// said: as text, in which nil and empty lists are one.
func said(parts ...any) string { return fmt.Sprintf("%+x", parts) }

// copyOf: an answer that shares nothing with this one.
func copyOf(a wire.Answer) wire.Answer {
	a.Found.Value = slices.Clone(a.Found.Value)
	a.Found.Proof.Sums = slices.Clone(a.Found.Proof.Sums)
	a.Later = slices.Clone(a.Later)
	a.Under.Proof.Sums = slices.Clone(a.Under.Proof.Sums)
	a.Under.Sums = slices.Clone(a.Under.Sums)
	a.Member.Id = slices.Clone(a.Member.Id)
	a.Sums = slices.Clone(a.Sums)
	return a
}
