package extract_test

import (
	"bytes"
	"fmt"
	"slices"
	"testing"

	"custumal/extract"
	"custumal/wire"
)

// said: as text, in which nil and empty lists are one.
func said(parts ...any) string { return fmt.Sprintf("%+x", parts) }

// roomy: the same, with spare room behind it.
func roomy[T any](l []T) []T { return append(slices.Clone(l), make([]T, 7)...)[:len(l)] }

// A call is what is handed in to Look, Stand and Log.
type call struct {
	id   []byte
	a    wire.Answer
	sums [][32]byte
}

func roomyCall(id string, a wire.Answer) call {
	a.Found.Value, a.Found.Proof.Sums = roomy(a.Found.Value), roomy(a.Found.Proof.Sums)
	a.Later, a.Under.Proof.Sums, a.Under.Sums = roomy(a.Later), roomy(a.Under.Proof.Sums), roomy(a.Under.Sums)
	a.Member.Id = roomy(a.Member.Id)
	return call{roomy([]byte(id)), a, roomy(sums(told(a.Under.Signed.Epoch+1, 40, true)))}
}

func (c call) bytes() [][]byte { return [][]byte{c.id, c.a.Found.Value, c.a.Member.Id} }

func (c call) lists() [][][32]byte {
	return [][][32]byte{c.a.Found.Proof.Sums, c.a.Later, c.a.Under.Proof.Sums, c.a.Under.Sums, c.sums}
}

// room: all lists, with their spare room.
func (c call) room() string {
	all := []any{c}
	for _, b := range c.bytes() {
		all = append(all, b[:cap(b)])
	}
	for _, l := range c.lists() {
		all = append(all, l[:cap(l)])
	}
	return said(all...)
}

func (c call) spoil() {
	for _, b := range c.bytes() {
		clear(b[:cap(b)])
	}
	for _, l := range c.lists() {
		clear(l[:cap(l)])
	}
}

func spoil(text []byte) {
	for i := range text[:cap(text)] {
		text[:cap(text)][i] ^= 0x55
	}
}

// What is handed in is neither changed, its spare room neither, nor kept; texts are new memory, each by itself (P30.4).
func TestTextsAreNew(t *testing.T) {
	h := hosted(t)
	look := serve(t, h, wire.Request{Kind: wire.Lookup, Id: []byte("a"), Label: []byte("l"), From: 5})
	first := serve(t, h, wire.Request{Kind: wire.Lookup, Id: []byte("a"), Label: []byte("l")})
	stand := serve(t, h, wire.Request{Kind: wire.Standing, Id: []byte("a")})
	for why, a := range map[string]wire.Answer{"a look": look, "a look at epoch 0": first, "a standing": stand} {
		for name, tell := range map[string]func(c call) [][]byte{
			"Look":  func(c call) [][]byte { return extract.Look(c.id, c.a) },
			"Stand": func(c call) [][]byte { return extract.Stand(c.id, c.a) },
			"Log":   func(c call) [][]byte { return extract.Log(c.a, 40, c.sums) },
		} {
			c := roomyCall("a", a)
			was := c.room()
			texts, again := tell(c), tell(c)
			want := said(texts)
			if c.room() != was || said(again) != want || len(texts) < 3 {
				t.Errorf("%s of %s: something is changed", name, why)
			}
			for i, text := range texts {
				others := said(texts[:i], texts[i+1:])
				spoil(text)
				if said(texts[:i], texts[i+1:]) != others {
					t.Errorf("%s of %s: text %d shares memory with another one", name, why, i)
				}
				spoil(text)
			}
			for _, text := range texts {
				spoil(text)
			}
			clear(texts[:cap(texts)])
			if c.room() != was || said(again) != want {
				t.Errorf("%s of %s: texts share memory with what was handed in, or with another answer", name, why)
			}
			c.spoil()
			if said(again) != want {
				t.Errorf("%s of %s: texts hang on what was handed in", name, why)
			}
		}
	}
}

// Lists in which is looked aren't changed, their spare room neither (P30.4).
func TestListsAreLeftAlone(t *testing.T) {
	h := hosted(t)
	look := serve(t, h, wire.Request{Kind: wire.Lookup, Id: []byte("a"), Label: []byte("l"), From: 5})
	a, b := roomy(extract.Look([]byte("a"), look)), roomy(extract.Log(look, 0, nil))
	was := said(a[:cap(a)], b[:cap(b)])
	extract.Find(a, b)
	extract.Find(a, a)
	if said(a[:cap(a)], b[:cap(b)]) != was || !bytes.Equal(a[0], extract.Look([]byte("a"), look)[0]) {
		t.Error("a list is changed")
	}
}
