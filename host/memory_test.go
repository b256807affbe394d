package host_test

import (
	"bytes"
	"slices"
	"testing"

	"custumal/api"
	"custumal/host"
	"custumal/super"
	"custumal/wire"
)

// roomy: these bytes, with spare room behind them.
func roomy(b []byte) []byte { return append(slices.Clone(b), "spare room"...)[:len(b)] }

// spoil: all becomes something else, up to the end of its room.
func spoil(lists ...[]byte) {
	for _, l := range lists {
		for i := range l[:cap(l)] {
			l[:cap(l)][i] ^= 0x55
		}
	}
}

func spoilSums(lists ...[][32]byte) {
	for _, l := range lists {
		for i := range l[:cap(l)] {
			spoil(l[:cap(l)][i][:])
		}
	}
}

func textsOf(r wire.Request) [][]byte { return [][]byte{r.Id, r.Label, r.Value, r.Bundle} }

func textsOfAnswer(a wire.Answer) [][]byte {
	all := [][]byte{a.Found.Value, a.Member.Id, a.Bundle}
	for _, e := range a.Entries {
		all = append(all, e.Value)
	}
	return all
}

func sumsOf(a wire.Answer) [][][32]byte {
	return [][][32]byte{a.Found.Proof.Sums, a.Later, a.Under.Proof.Sums, a.Under.Sums, a.Sums}
}

// spoilAnswer: all of its lists, and those within them.
func spoilAnswer(a wire.Answer) {
	spoil(textsOfAnswer(a)...)
	spoilSums(sumsOf(a)...)
	clear(a.Entries[:cap(a.Entries)])
	clear(a.Marks[:cap(a.Marks)])
}

// readings: requests that change nothing, of all kinds that answer lists.
func readings() (all []wire.Request) {
	for _, id := range []string{"live", "held", "new", "other", "gone"} {
		for _, label := range []string{"l", "m", "never"} {
			all = append(all, look(id, label, -1), look(id, label, 0), history(id, label))
		}
		all = append(all, audit(id, 0, 2), of(wire.Export, id), of(wire.Standing, id))
	}
	return append(all, growth(1, 4), growth(0, 3), growth(3, 4))
}

// read: all that a host answers, but for Reads.
func read(h *host.Host) string {
	var all []any
	for _, r := range readings() {
		a := h.Serve(r)
		a.Found.Reads = 0
		all = append(all, a)
	}
	return said(append(all, h.State(), h.Public())...)
}

// What is handed in is neither changed, its spare room neither, nor kept (P26.4).
func TestWhatIsHandedIn(t *testing.T) {
	one, other := newHost(t, 4), newHost(t, 4)
	requests := []wire.Request{
		create("live", 1, wide), put("live", "l", "1"), put("live", "m", "2"), {}, put("live", "l", "3"), {}, create("held", 2, wide),
		put("held", "l", "1"), of(wire.Hold, "held"), bring(packed("new")), create("gone", 1, wide), {}, put("new", "m", "5"),
		of(wire.Delete, "gone"), of(wire.Free, "held"), create("live", 1, wide), create("", 1, wide),
	}
	for _, r := range append(requests, readings()...) {
		if r.Kind == 0 {
			if one.Tick() != api.OK || other.Tick() != api.OK {
				t.Fatal("no tick")
			}
			continue
		}
		own := r
		own.Id, own.Label, own.Value, own.Bundle = roomy(r.Id), roomy(r.Label), roomy(r.Value), roomy(r.Bundle)
		var was [][]byte
		for _, b := range textsOf(own) {
			was = append(was, slices.Clone(b[:cap(b)]))
		}
		got := one.Serve(own)
		for i, b := range textsOf(own) {
			if !bytes.Equal(b[:cap(b)], was[i]) {
				t.Errorf("%+v: text %d is changed", r, i)
			}
		}
		spoil(textsOf(own)...)
		if want := other.Serve(r); said(got) != said(want) {
			t.Errorf("%+v:\n%.900s\nnot\n%.900s", r, said(got), said(want))
		}
		if b, err := wire.Ask(r); err == api.OK {
			own := roomy(b)
			was := slices.Clone(own[:cap(own)])
			got := one.Do(own)
			if !bytes.Equal(own[:cap(own)], was) {
				t.Errorf("%+v: bytes are changed", r)
			}
			spoil(own)
			if want := other.Do(b); !bytes.Equal(got, want) {
				t.Errorf("%+v: %x, not %x", r, got, want)
			}
		}
	}
	if read(one) != read(other) || partsText(one.Parts()) != partsText(other.Parts()) {
		t.Error("something of what was handed in is kept")
	}
	id := roomy([]byte("live"))
	if at, err := one.Place(id); at != 0 || err != api.OK || string(id[:14]) != "livespare room" {
		t.Errorf("Place: %d, %v, %q", at, err, id[:14])
	}
}

// A host is as it was, whatever becomes of its answers; and these are told alike, kept or not (P26.4).
func TestAnswersAreNew(t *testing.T) {
	p := lived(t)
	p.ticks(1)
	want := read(p.host)
	for range 3 {
		for _, r := range readings() {
			spoilAnswer(p.host.Serve(r))
			b, _ := wire.Ask(r)
			spoil(p.host.Do(b))
		}
		spoil(p.host.State(), p.host.Do(nil))
		if got := read(p.host); got != want {
			t.Errorf("%.900s\nnot\n%.900s", got, want)
		}
	}
}

// Answers stay as they are, whatever is done then (P26.4).
func TestAnswersStay(t *testing.T) {
	p := lived(t)
	var all []any
	for _, r := range readings() {
		all = append(all, p.host.Serve(r))
	}
	parts := p.host.Parts()
	for i := range parts.Tenants {
		parts.Tenants[i].Directory = nil
	}
	all = append(all, p.host.State(), parts)
	was := said(all...)
	p.must(api.OK, put("live", "l", "later"))
	p.must(api.OK, of(wire.Delete, "held"))
	p.must(api.OK, create("more", 1, wide))
	p.ticks(2)
	for _, r := range readings() {
		p.host.Serve(r)
	}
	if said(all...) != was {
		t.Error("answers are other ones now")
	}
}

// No two lists of one answer share their memory (P26.4).
func TestListsOfAnAnswerAreApart(t *testing.T) {
	p := lived(t)
	p.ticks(2)
	expectApart := func(r wire.Request, texts [][]byte, sums [][][32]byte, change func()) {
		t.Helper()
		was := said(texts, sums)
		change()
		if said(texts, sums) != was {
			t.Errorf("%+v: lists of one answer share their memory", r)
		}
	}
	without := func(l [][][32]byte, i int) [][][32]byte { return slices.Delete(slices.Clone(l), i, i+1) }
	for range 2 {
		for _, r := range readings() {
			a := p.host.Serve(r)
			texts, sums := textsOfAnswer(a), sumsOf(a)
			for i := range texts {
				expectApart(r, slices.Delete(slices.Clone(texts), i, i+1), sums, func() { spoil(texts[i]) })
			}
			for i := range sums {
				expectApart(r, texts, without(sums, i), func() { spoilSums(sums[i]) })
			}
		}
	}
}

// Parts are new, but for the directories; those that are handed in are neither changed nor kept, but for these (P26.4).
func TestPartsAreNew(t *testing.T) {
	p := lived(t)
	want := read(p.host)
	spoilParts := func(parts host.Parts) {
		for _, one := range parts.Tenants {
			spoil(one.Id)
		}
		for _, m := range parts.Members {
			spoil(m.Id)
		}
		clear(parts.Tenants[:cap(parts.Tenants)])
		clear(parts.Members[:cap(parts.Members)])
		clear(parts.Signed[:cap(parts.Signed)])
	}
	spoilParts(p.host.Parts())
	if got := read(p.host); got != want {
		t.Errorf("%.900s\nnot\n%.900s", got, want)
	}
	parts := p.host.Parts()
	for i := range parts.Tenants {
		parts.Tenants[i].Id = roomy(parts.Tenants[i].Id)
	}
	for i := range parts.Members {
		parts.Members[i].Id = roomy(parts.Members[i].Id)
	}
	parts.Tenants = append(parts.Tenants, host.Part{Period: 77})[:len(parts.Tenants)]
	parts.Members = append(parts.Members, super.Member{Epoch: 77})[:len(parts.Members)]
	parts.Signed = append(parts.Signed, super.Signed{Epoch: 77})[:len(parts.Signed)]
	room := func() string {
		var all []any
		for _, one := range parts.Tenants {
			all = append(all, one.Id[:cap(one.Id)])
		}
		for _, m := range parts.Members {
			all = append(all, m.Id[:cap(m.Id)])
		}
		return said(append(all, parts.Tenants[:cap(parts.Tenants)], parts.Members[:cap(parts.Members)], parts.Signed[:cap(parts.Signed)])...)
	}
	was := room()
	h, err := host.Rebuild(seed, 6, parts)
	if err != api.OK || room() != was {
		t.Fatalf("%v, or the parts are changed", err)
	}
	spoilParts(parts)
	if got := read(h); got != want {
		t.Errorf("%.900s\nnot\n%.900s", got, want)
	}
	if h.Tick() != api.OK || parts.Signed[:cap(parts.Signed)][4] != (super.Signed{}) {
		t.Error("the next super-epoch is in the list's spare room")
	}
}
