package extract_test

import (
	"crypto/sha256"
	"encoding/binary"
	"math/bits"
	"testing"

	"custumal/api"
	"custumal/direct"
	"custumal/host"
	"custumal/proof"
	"custumal/wire"
)

// What the document says of texts, said once more, by the library's sums.

func sumOf(text string) [32]byte { return sha256.Sum256([]byte(text)) }

// str: bytes of a sum as a text.
func str(sum [32]byte) string { return string(sum[:]) }

func number(n int) string { return string(binary.BigEndian.AppendUint64(nil, uint64(n))) }

func linkText(id []byte, epoch int, root, ahead [32]byte) string {
	count := string(binary.BigEndian.AppendUint16(nil, uint16(len(id))))
	return "\x03" + count + string(id) + number(epoch) + str(root) + str(ahead)
}

func memberText(gone bool, epoch int, link [32]byte) string {
	if gone {
		return "\x07"
	}
	return "\x06" + number(epoch) + str(link)
}

// proofTexts: from the end up to the top.
func proofTexts(k [32]byte, p proof.Proof) (l []string) {
	text := "\x02"
	if p.There {
		text = "\x00" + str(p.End.Key) + str(p.End.Value)
	}
	l = append(l, text)
	for depth := len(p.Sums) - 1; depth >= 0; depth-- {
		sides := str(sumOf(text)) + str(p.Sums[depth])
		if depth < 256 && k[depth/8]>>(7-depth%8)&1 == 1 {
			sides = str(p.Sums[depth]) + str(sumOf(text))
		}
		text = string([]byte{1, byte(depth >> 8), byte(depth)}) + sides
		l = append(l, text)
	}
	return l
}

func standTexts(id []byte, a wire.Answer) []string {
	m := a.Member
	return append([]string{memberText(m.Gone, m.Epoch, m.Link)}, proofTexts(sumOf("\x05"+string(id)), a.Under.Proof)...)
}

// turned: an opening at a block's length, put together with a byte.
func turned(open [32]byte, with byte) string {
	b := make([]byte, 64)
	copy(b, open[:])
	for i := range b {
		b[i] ^= with
	}
	return string(b)
}

func lookTexts(id []byte, a wire.Answer) (l []string) {
	f := a.Found
	text := linkText(id, f.Epoch, f.Root, f.Ahead)
	if f.Epoch == 0 {
		text = "\x04" + string(id)
	}
	l = append(l, text)
	a.Member.Gone = false
	a.Member.Epoch = f.Epoch
	for _, root := range a.Later {
		a.Member.Epoch++
		text = linkText(id, a.Member.Epoch, root, sumOf(text))
		l = append(l, text)
	}
	a.Member.Link = sumOf(text)
	l = append(l, standTexts(id, a)...)
	l = append(l, proofTexts(f.Index, f.Proof)...)
	if f.Present {
		inner := turned(f.Open, 0x36) + str(f.Index) + number(f.Version) + string(f.Value)
		l = append(l, inner, turned(f.Open, 0x5c)+str(sumOf(inner)))
	}
	return l
}

func split(n int) int { return 1 << (bits.Len(uint(n-1)) - 1) }

// pathTexts: PATH of i in n, put together, as layer 16 says it, from the top down.
func pathTexts(entry string, i, n int, p [][32]byte) (l []string, sum [32]byte) {
	if n == 1 {
		return []string{"\x00" + entry}, sumOf("\x00" + entry)
	}
	k, last := split(n), p[len(p)-1]
	text := ""
	if i < k {
		l, sum = pathTexts(entry, i, k, p[:len(p)-1])
		text = "\x01" + str(sum) + str(last)
	} else {
		l, sum = pathTexts(entry, i-k, n-k, p[:len(p)-1])
		text = "\x01" + str(last) + str(sum)
	}
	return append(l, text), sumOf(text)
}

// subTexts: SUB of m in n, put together, as layer 16 says it, from the top down: what comes out as the elder sum, and as the younger one.
func subTexts(m, n int, all bool, p [][32]byte, old [32]byte) (l []string, elder, younger [32]byte) {
	if m == n {
		if all {
			return nil, old, old
		}
		return nil, p[0], p[0]
	}
	k, last := split(n), p[len(p)-1]
	if m <= k {
		l, elder, younger = subTexts(m, k, all, p[:len(p)-1], old)
		text := "\x01" + str(younger) + str(last)
		return append(l, text), elder, sumOf(text)
	}
	l, elder, younger = subTexts(m-k, n-k, false, p[:len(p)-1], old)
	one, other := "\x01"+str(last)+str(elder), "\x01"+str(last)+str(younger)
	return append(l, one, other), sumOf(one), sumOf(other)
}

// logTexts: of sums that are as many as there must be.
func logTexts(a wire.Answer, to int, sums [][32]byte) (l []string) {
	s := a.Under.Signed
	l, _ = pathTexts("\x08"+number(s.Epoch)+str(s.Root), s.Epoch, s.Epoch+1, a.Under.Sums)
	if to > s.Epoch+1 {
		more, _, _ := subTexts(s.Epoch+1, to, true, sums, a.Under.Log)
		l = append(l, more...)
	}
	return l
}

func expectTexts(t *testing.T, why string, got [][]byte, want []string) {
	t.Helper()
	if len(got) != len(want) {
		t.Errorf("%s: %d texts, not %d", why, len(got), len(want))
		return
	}
	for i := range got {
		if string(got[i]) != want[i] {
			t.Errorf("%s: text %d is\n%x\nnot\n%x", why, i, got[i], want[i])
		}
	}
}

// hosted: a host of which much is told: tenants of some epochs, one that is gone.
func hosted(t *testing.T) *host.Host {
	t.Helper()
	h, err := host.New([32]byte{5}, 5, 0)
	if err != api.OK {
		t.Fatal(err)
	}
	for i, id := range []string{"a", "b", "c", "sixteen bytes id"} {
		serve(t, h, wire.Request{Kind: wire.Create, Id: []byte(id), Keys: direct.Keys{Vrf: [32]byte{byte(i)}}, Limits: direct.Limits{Labels: 9, Pending: 16, Epochs: 20}, Period: 1 + i})
	}
	for i := range 7 {
		for _, id := range []string{"a", "b", "sixteen bytes id"} {
			for j := range 3 {
				serve(t, h, wire.Request{Kind: wire.Put, Id: []byte(id), Label: []byte{'l' + byte((i+j)%5)}, Value: []byte{byte(i), byte(j)}})
			}
		}
		h.Tick()
	}
	serve(t, h, wire.Request{Kind: wire.Delete, Id: []byte("c")})
	h.Tick()
	return h
}

func serve(t *testing.T, h *host.Host, r wire.Request) wire.Answer {
	t.Helper()
	a := h.Serve(r)
	if a.Err != api.OK {
		t.Fatalf("%+v: %v", r, a.Err)
	}
	return a
}
