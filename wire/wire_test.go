package wire_test

import (
	"bytes"
	"encoding/hex"
	"fmt"
	"math"
	"slices"
	"strings"
	"testing"

	"custumal/api"
	"custumal/direct"
	"custumal/proof"
	"custumal/super"
	"custumal/tree"
	"custumal/wire"
)

// filled: a sum of one byte, so many times.
func filled(b byte) [32]byte { return [32]byte(bytes.Repeat([]byte{b}, 32)) }

func hexOf(b byte) string { return strings.Repeat(fmt.Sprintf("%02x", b), 32) }

func expectHex(t *testing.T, why string, got []byte, err api.Errno, want string) {
	t.Helper()
	want = strings.ReplaceAll(want, " ", "")
	if hex.EncodeToString(got) != want || err != api.OK {
		t.Errorf("%s: %x, %v, not %s", why, got, err, want)
	}
}

// The chapter's example (P24.1).
func TestExample(t *testing.T) {
	b, err := wire.Ask(wire.Request{Kind: wire.Delete, Id: []byte("a")})
	expectHex(t, "Delete", b, err, "04000161")
}

// The bytes of a request of each kind, written out (P24.1).
func TestAskOfEachKind(t *testing.T) {
	full := wire.Request{
		Id: []byte("id"), Keys: direct.Keys{Vrf: filled(0xa1), Bind: filled(0xa2)},
		Limits: direct.Limits{Labels: 3, Pending: 4, Epochs: 5}, Period: 6, Label: []byte("lab"), Value: []byte("v"),
		From: -1, To: 258, Bundle: []byte("bun"),
	}
	const from, to = "ffffffffffffffff", "0000000000000102"
	for kind, want := range []string{
		1:  "01 00026964" + hexOf(0xa1) + hexOf(0xa2) + "0000000000000003 0000000000000004 0000000000000005 0000000000000006",
		2:  "02 00026964",
		3:  "03 00026964",
		4:  "04 00026964",
		5:  "05 00026964 00036c6162 000176",
		6:  "06 00026964 00036c6162" + from,
		7:  "07 00026964 00036c6162",
		8:  "08 00026964" + from + to,
		9:  "09 00026964",
		10: "0a 000362756e",
		11: "0b 00026964",
		12: "0c" + from + to,
	} {
		if full.Kind = kind; kind > 0 {
			b, err := wire.Ask(full)
			expectHex(t, fmt.Sprint("kind ", kind), b, err, want)
		}
	}
}

// a proof, a found and an under, and their bytes, written out.
var (
	onePath  = proof.Proof{Sums: [][32]byte{filled(0xb1), filled(0xb2)}, There: true, End: tree.Leaf{Key: filled(0xb3), Value: filled(0xb4)}}
	oneFound = direct.Found{
		Epoch: 7, Index: filled(0xc1), Vrf: [80]byte(bytes.Repeat([]byte{0xc2}, 80)), Present: true, Version: 8, Value: []byte("val"),
		Bound: filled(0xc3), Open: filled(0xc4), Proof: onePath, Root: filled(0xc5), Link: filled(0xc6), Ahead: filled(0xc7), Reads: 9,
	}
	oneUnder = wire.Under{
		Signed: super.Signed{Epoch: 10, Root: filled(0xd1), Sig: [64]byte(bytes.Repeat([]byte{0xd2}, 64))},
		Log:    filled(0xd3), Sums: [][32]byte{filled(0xd4)},
	}
)

func pathHex() string {
	return "0000000000000002" + hexOf(0xb1) + hexOf(0xb2) + "01" + hexOf(0xb3) + hexOf(0xb4)
}

func foundHex() string {
	return "0000000000000007" + hexOf(0xc1) + "0050" + strings.Repeat("c2", 80) + "01 0000000000000008 000376616c" +
		hexOf(0xc3) + hexOf(0xc4) + pathHex() + hexOf(0xc5) + hexOf(0xc6) + hexOf(0xc7) + "0000000000000009"
}

func underHex() string {
	return "0000000000000000 00 000000000000000a" + hexOf(0xd1) + "0040" + strings.Repeat("d2", 64) + hexOf(0xd3) +
		"0000000000000001" + hexOf(0xd4)
}

// The bytes of an answer of each kind, and of a Found, written out (P24.1).
func TestTellOfEachKind(t *testing.T) {
	full := wire.Answer{
		Epoch: 2, Found: oneFound, Public: filled(0xe1), Later: [][32]byte{filled(0xe2), filled(0xe3)}, Under: oneUnder,
		Entries: []direct.Entry{{Epoch: 1, Version: 2, Value: []byte("x")}, {Epoch: 3, Version: 4}},
		Marks:   []direct.Mark{{Epoch: 5, Root: filled(0xe4), Link: filled(0xe5)}},
		Member:  super.Member{Id: []byte("m"), Epoch: 6, Link: filled(0xe6)}, Bundle: []byte("bun"),
		Log: filled(0xe7), Sums: [][32]byte{filled(0xe8)},
	}
	for kind, want := range []string{
		0:  "00 00",
		1:  "01 00 0000000000000002",
		2:  "02 00",
		3:  "03 00",
		4:  "04 00",
		5:  "05 00",
		6:  "06 00" + foundHex() + hexOf(0xe1) + "0000000000000002" + hexOf(0xe2) + hexOf(0xe3) + underHex(),
		7:  "07 00 0000000000000002 0000000000000001 0000000000000002 000178 0000000000000003 0000000000000004 0000",
		8:  "08 00 0000000000000001 0000000000000005" + hexOf(0xe4) + hexOf(0xe5),
		9:  "09 00 000362756e",
		10: "0a 00 0000000000000002",
		11: "0b 00 00016d 00 0000000000000006" + hexOf(0xe6) + underHex(),
		12: "0c 00" + hexOf(0xe7) + "0000000000000001" + hexOf(0xe8),
	} {
		full.Kind, full.Err = kind, api.OK
		b, err := wire.Tell(full)
		expectHex(t, fmt.Sprint("kind ", kind), b, err, want)
		full.Err = api.ErrFalse
		b, err = wire.Tell(full)
		expectHex(t, fmt.Sprint("an error of kind ", kind), b, err, fmt.Sprintf("%02x12", kind))
	}
	b, err := wire.Saw(oneFound)
	expectHex(t, "found", b, err, foundHex())
}

// Requests of all kinds, by chance: the bytes, and back (P24.1, P24.2); what the kind doesn't have isn't there then.
func TestRequestsByChance(t *testing.T) {
	c := byChance(1)
	for i := range 600 {
		r := c.request(i%12 + 1)
		b, err := wire.Ask(r)
		expect(t, "Ask", b, err, requestBytes(r), api.OK)
		back, err := wire.Asked(b)
		expect(t, "Asked", back, err, mixed(wire.Request{}, r), api.OK)
	}
}

func expectAnswer(t *testing.T, a wire.Answer) {
	t.Helper()
	b, err := wire.Tell(a)
	expect(t, "Tell", b, err, answerBytes(a), api.OK)
	back, err := wire.Told(b)
	expect(t, "Told", back, err, bare(a), api.OK)
}

// Answers of all kinds, by chance, and with each error (P24.1, P24.2).
func TestAnswersByChance(t *testing.T) {
	c := byChance(2)
	for i := range 390 {
		a := c.answer(i % 13)
		expectAnswer(t, a)
		b, err := wire.Saw(a.Found)
		expect(t, "Saw", b, err, foundBytes(a.Found), api.OK)
		back, err := wire.Seen(b)
		want := a.Found
		want.Proof = bareProof(want.Proof)
		expect(t, "Seen", back, err, want, api.OK)
	}
	a := c.answer(0)
	for a.Kind = range 13 {
		for a.Err = range api.Errno(256) {
			expectAnswer(t, a)
		}
	}
}

// What its kind doesn't have isn't looked at: it may be whatever it is (P24.1).
func TestWhatAKindDoesNotHave(t *testing.T) {
	long, many := make([]byte, 65536), make([][32]byte, 257)
	wildProof := proof.Proof{Sums: many}
	wildRequest := wire.Request{Id: long, Label: long, Value: long, Bundle: long}
	wildAnswer := wire.Answer{
		Found: direct.Found{Value: long, Proof: wildProof}, Later: many, Under: wire.Under{Proof: wildProof, Sums: many},
		Entries: make([]direct.Entry, 1025), Marks: make([]direct.Mark, 1025), Member: super.Member{Id: long}, Bundle: long, Sums: many,
	}
	c := byChance(3)
	for kind := range 13 {
		a := c.answer(kind)
		for a.Err = range api.Errno(2) {
			b, err := wire.Tell(mixedAnswer(wildAnswer, a))
			expect(t, fmt.Sprint("answer ", kind), b, err, answerBytes(a), api.OK)
		}
		if kind > 0 {
			r := c.request(kind)
			b, err := wire.Ask(mixed(wildRequest, r))
			expect(t, fmt.Sprint("request ", kind), b, err, requestBytes(r), api.OK)
		}
	}
}

// Each text of a request: of just its limit, and of a byte more (P24.1).
func TestTextsOfRequests(t *testing.T) {
	texts := map[string]struct {
		limit int
		kinds []int
		set   func(*wire.Request, []byte)
	}{
		"id":     {16, []int{1, 2, 3, 4, 5, 6, 7, 8, 9, 11}, func(r *wire.Request, b []byte) { r.Id = b }},
		"label":  {32, []int{5, 6, 7}, func(r *wire.Request, b []byte) { r.Label = b }},
		"value":  {64, []int{5}, func(r *wire.Request, b []byte) { r.Value = b }},
		"bundle": {65535, []int{10}, func(r *wire.Request, b []byte) { r.Bundle = b }},
	}
	for name, text := range texts {
		for _, kind := range text.kinds {
			for _, more := range []int{-1, 0, 1, 2, 1 << 16} {
				r := wire.Request{Kind: kind}
				text.set(&r, bytes.Repeat([]byte{5}, text.limit+more))
				b, err := wire.Ask(r)
				back, backErr := wire.Asked(requestBytes(r))
				if more > 0 {
					expect(t, name, b, err, nil, api.ErrForm)
					expect(t, name, back, backErr, wire.Request{}, api.ErrForm)
				} else {
					expect(t, name, b, err, requestBytes(r), api.OK)
					expect(t, name, back, backErr, r, api.OK)
				}
			}
		}
	}
}

// Each list and text of an answer: of just its limit, and of one more (P24.1).
func TestListsOfAnswers(t *testing.T) {
	sums := func(n int) [][32]byte { return make([][32]byte, n) }
	path := func(n int) proof.Proof { return proof.Proof{Sums: sums(n)} }
	for name, c := range map[string]struct {
		limit int
		make  func(n int) wire.Answer
	}{
		"later":       {256, func(n int) wire.Answer { return wire.Answer{Kind: 6, Later: sums(n)} }},
		"found proof": {256, func(n int) wire.Answer { return wire.Answer{Kind: 6, Found: direct.Found{Proof: path(n)}} }},
		"look proof":  {256, func(n int) wire.Answer { return wire.Answer{Kind: 6, Under: wire.Under{Proof: path(n)}} }},
		"look under":  {256, func(n int) wire.Answer { return wire.Answer{Kind: 6, Under: wire.Under{Sums: sums(n)}} }},
		"stand proof": {256, func(n int) wire.Answer { return wire.Answer{Kind: 11, Under: wire.Under{Proof: path(n)}} }},
		"stand under": {256, func(n int) wire.Answer { return wire.Answer{Kind: 11, Under: wire.Under{Sums: sums(n)}} }},
		"growth":      {256, func(n int) wire.Answer { return wire.Answer{Kind: 12, Sums: sums(n)} }},
		"entries":     {1024, func(n int) wire.Answer { return wire.Answer{Kind: 7, Entries: make([]direct.Entry, n)} }},
		"marks":       {1024, func(n int) wire.Answer { return wire.Answer{Kind: 8, Marks: make([]direct.Mark, n)} }},
		"value":       {64, func(n int) wire.Answer { return wire.Answer{Kind: 6, Found: direct.Found{Value: make([]byte, n)}} }},
		"entry": {64, func(n int) wire.Answer {
			return wire.Answer{Kind: 7, Entries: []direct.Entry{{}, {Value: make([]byte, n)}}}
		}},
		"bundle": {65535, func(n int) wire.Answer { return wire.Answer{Kind: 9, Bundle: make([]byte, n)} }},
		"member": {16, func(n int) wire.Answer { return wire.Answer{Kind: 11, Member: super.Member{Id: make([]byte, n)}} }},
	} {
		for _, more := range []int{-1, 0, 1, 2, 1000} {
			a := c.make(c.limit + more)
			if more <= 0 {
				expectAnswer(t, a)
				continue
			}
			b, err := wire.Tell(a)
			expect(t, name, b, err, nil, api.ErrForm)
			back, err := wire.Told(answerBytes(a))
			expect(t, name, back, err, wire.Answer{}, api.ErrForm)
		}
	}
	for more := range 2 {
		for _, f := range []direct.Found{{Value: make([]byte, 64+more)}, {Proof: path(256 + more)}} {
			b, err := wire.Saw(f)
			back, backErr := wire.Seen(foundBytes(f))
			if more > 0 {
				expect(t, "Saw", b, err, nil, api.ErrForm)
				expect(t, "Seen", back, backErr, direct.Found{}, api.ErrForm)
			} else {
				expect(t, "Saw", b, err, foundBytes(f), api.OK)
				expect(t, "Seen", back, backErr, f, api.OK)
			}
		}
	}
}

// Kinds that there aren't, and errors that are no byte (P24.1).
func TestKindsAndErrors(t *testing.T) {
	for _, kind := range []int{math.MinInt, -256, -1, 0, 1, 12, 13, 255, 256, 257, 268, 1<<32 + 1, math.MaxInt} {
		want := map[bool]api.Errno{true: api.OK, false: api.ErrForm}
		b, err := wire.Ask(wire.Request{Kind: kind})
		if err != want[kind >= 1 && kind <= 12] || (b == nil) != (err != api.OK) {
			t.Errorf("request of kind %d: %x, %v", kind, b, err)
		}
		for _, e := range []api.Errno{math.MinInt, -256, -1, 0, 1, 18, 19, 255, 256, 257, 1 << 32, math.MaxInt} {
			b, err := wire.Tell(wire.Answer{Kind: kind, Err: e})
			if err != want[kind >= 0 && kind <= 12 && e >= 0 && e <= 255] || (b == nil) != (err != api.OK) {
				t.Errorf("answer of kind %d with %d: %x, %v", kind, e, b, err)
			}
		}
	}
	for kind := range 256 {
		for _, behind := range [][]byte{nil, {0, 0}, make([]byte, 16), make([]byte, 100)} {
			b := append([]byte{byte(kind)}, behind...)
			if r, err := wire.Asked(b); (kind < 1 || kind > 12) && (err != api.ErrForm || !same(r, wire.Request{})) {
				t.Errorf("bytes of request %d: %+v, %v", kind, r, err)
			}
			for _, e := range []byte{0, 1, 255} {
				a, err := wire.Told(slices.Insert(slices.Clone(b), 1, e))
				isOne := kind <= 12 && e > 0 && behind == nil
				if kind > 12 && err != api.ErrForm || isOne && (err != api.OK || a.Kind != kind || a.Err != api.Errno(e)) {
					t.Errorf("bytes of answer %d with %d: %+v, %v", kind, e, a, err)
				}
				if e > 0 && behind != nil && (err != api.ErrForm || !same(a, wire.Answer{})) {
					t.Errorf("bytes of answer %d with %d, and more behind: %+v, %v", kind, e, a, err)
				}
			}
		}
	}
}
