package wire_test

import (
	"bytes"
	"math"
	"slices"
	"testing"

	"custumal/api"
	"custumal/direct"
	"custumal/proof"
	"custumal/super"
	"custumal/wire"
)

// expectExact: these bytes are a request's, an answer's or a Found's only if that one's are just these (P24.2); else there is nothing. Were they one's?
func expectExact(t *testing.T, b []byte) (request, answer, found bool) {
	t.Helper()
	r, err := wire.Asked(b)
	if request = err == api.OK; request {
		again, err := wire.Ask(r)
		expect(t, "Ask of Asked", again, err, b, api.OK)
		expect(t, "Asked", b, err, requestBytes(r), api.OK)
	} else {
		expect(t, "Asked", r, err, wire.Request{}, api.ErrForm)
	}
	a, err := wire.Told(b)
	if answer = err == api.OK; answer {
		again, err := wire.Tell(a)
		expect(t, "Tell of Told", again, err, b, api.OK)
		expect(t, "Told", b, err, answerBytes(a), api.OK)
	} else {
		expect(t, "Told", a, err, wire.Answer{}, api.ErrForm)
	}
	f, err := wire.Seen(b)
	if found = err == api.OK; found {
		again, err := wire.Saw(f)
		expect(t, "Saw of Seen", again, err, b, api.OK)
		expect(t, "Seen", b, err, foundBytes(f), api.OK)
	} else {
		expect(t, "Seen", f, err, direct.Found{}, api.ErrForm)
	}
	return request, answer, found
}

// small: requests, answers and a Found of each kind, with short lists.
func small() (requests []wire.Request, answers []wire.Answer) {
	c := byChance(5)
	for kind := 1; kind <= 12; kind++ {
		r := c.request(kind)
		r.Id, r.Label, r.Value, r.Bundle = []byte("id"), []byte("l"), nil, []byte("bundle")
		requests = append(requests, r)
	}
	for kind := range 13 {
		sums := [][32]byte{c.sum(), c.sum()}
		answers = append(answers, wire.Answer{
			Kind: kind, Epoch: c.num(), Found: oneFound, Public: c.sum(), Later: sums, Under: oneUnder,
			Entries: []direct.Entry{{Epoch: c.num(), Version: c.num(), Value: []byte("value")}, {}},
			Marks:   []direct.Mark{{Epoch: c.num(), Root: c.sum()}, {Link: c.sum()}},
			Member:  super.Member{Id: []byte("id"), Gone: kind%2 == 0, Epoch: c.num(), Link: c.sum()},
			Bundle:  []byte("bundle"), Log: c.sum(), Sums: sums,
		})
		answers = append(answers, wire.Answer{Kind: kind, Err: api.ErrFull})
	}
	return requests, answers
}

// Bytes that end too soon, that have more behind, and none (P24.1, P24.2).
func TestBytesThatEndElsewhere(t *testing.T) {
	requests, answers := small()
	elsewhere := func(b []byte, taken func([]byte) bool) {
		t.Helper()
		if !taken(b) {
			t.Errorf("%x isn't taken", b)
		}
		for n := range b {
			if taken(b[:n]) {
				t.Errorf("%x is taken, of which bytes are missing", b[:n])
			}
		}
		for _, behind := range [][]byte{{0}, {1}, {255}, {0, 0, 0, 0}, b} {
			if taken(slices.Concat(b, behind)) {
				t.Errorf("%x is taken, with %x behind", b, behind)
			}
		}
	}
	for _, r := range requests {
		elsewhere(requestBytes(r), func(b []byte) bool { request, _, _ := expectExact(t, b); return request })
	}
	for _, a := range answers {
		elsewhere(answerBytes(a), func(b []byte) bool { _, answer, _ := expectExact(t, b); return answer })
	}
	elsewhere(foundBytes(oneFound), func(b []byte) bool { _, _, found := expectExact(t, b); return found })
	for _, none := range [][]byte{nil, {}} {
		if request, answer, found := expectExact(t, none); request || answer || found {
			t.Error("no bytes are something's")
		}
	}
}

// Bytes of which one is another are somebody else's, or nobody's (P24.2).
func TestChangedBytes(t *testing.T) {
	requests, answers := small()
	all := [][]byte{foundBytes(oneFound)}
	for _, r := range requests {
		all = append(all, requestBytes(r))
	}
	for _, a := range answers {
		all = append(all, answerBytes(a))
	}
	for _, b := range all {
		for i, was := range b {
			for _, is := range []byte{0, 1, 2, 3, 12, 13, 16, 17, 128, 255, was + 1, was - 1} {
				b[i] = is
				expectExact(t, b)
			}
			b[i] = was
		}
	}
}

// Bytes by chance, with a kind and often no error ahead (P24.1, P24.2).
func TestBytesByChance(t *testing.T) {
	c := byChance(6)
	taken := 0
	for range 20000 {
		b := make([]byte, c.Intn(60))
		for i := range b {
			b[i] = []byte{0, 0, 0, 1, 2, 255, byte(c.Intn(256))}[c.Intn(7)]
		}
		if len(b) > 0 {
			b[0] = byte(c.Intn(15))
		}
		request, answer, _ := expectExact(t, b)
		if request || answer {
			taken++
		}
	}
	if taken < 100 {
		t.Errorf("%d rows of bytes are something's", taken)
	}
}

// A flag is 1 or 0, and nothing else (P24.1).
func TestFlags(t *testing.T) {
	a := wire.Answer{Kind: wire.Lookup}
	found := 2 + 8 + 32 + 82
	path := found + 1 + 8 + 2 + 32 + 32 + 8
	under := path + 1 + 32*3 + 8 + 32 + 8 + 8
	stand := wire.Answer{Kind: wire.Standing, Member: super.Member{Id: []byte("id")}}
	for _, c := range []struct {
		b      []byte
		places []int
	}{
		{answerBytes(a), []int{found, path, under}},
		{answerBytes(stand), []int{2 + 4, 2 + 4 + 1 + 8 + 32 + 8}},
	} {
		for _, at := range c.places {
			if c.b[at] != 0 {
				t.Fatalf("no flag at %d", at)
			}
			for n := range 256 {
				changed := slices.Clone(c.b)
				changed[at] = byte(n)
				// Behind a proof's flag of 1 a leaf is missing: these bytes end too soon.
				with := slices.Insert(slices.Clone(changed), at+1, make([]byte, 64)...)
				_, plain, _ := expectExact(t, changed)
				_, leaf, _ := expectExact(t, with)
				isProof := at == path || at == under || at == 2+4+1+8+32+8
				if plain != (n == 0 || n == 1 && !isProof) || leaf != (n == 1 && isProof) {
					t.Errorf("flag %d at %d: taken: %v, with a leaf: %v", n, at, plain, leaf)
				}
			}
		}
	}
}

// Counts that are too great, below nought, or not as many as there are (P24.1).
func TestCounts(t *testing.T) {
	for _, a := range []wire.Answer{{Kind: wire.History}, {Kind: wire.Audit}, {Kind: wire.Growth}, {Kind: wire.Lookup}, {Kind: wire.Standing}} {
		b := answerBytes(a)
		for at := 2; at+8 <= len(b); at++ {
			for _, n := range []int{math.MinInt, -1, 1, 2, 255, 256, 257, 1023, 1024, 1025, 1 << 16, 1 << 32, math.MaxInt} {
				expectExact(t, slices.Concat(b[:at], num(n), b[at+8:]))
			}
		}
	}
	for _, kind := range []byte{7, 8} {
		for _, n := range []int{math.MinInt, -1, 1, 1025, 1 << 40, math.MaxInt} {
			if a, err := wire.Told(append([]byte{kind, 0}, num(n)...)); err != api.ErrForm {
				t.Errorf("kind %d, count %d: %+v, %v", kind, n, a, err)
			}
		}
	}
}

// A proof of too many sums is none, also where its count is all that there is of it (P24.1).
func TestCountsOfProofs(t *testing.T) {
	none := proofBytes(proof.Proof{})
	f := foundBytes(direct.Found{})
	found := len(f) - 8 - 3*32 - len(none)
	s := answerBytes(wire.Answer{Kind: wire.Standing})
	under := len(s) - len(underBytes(wire.Under{}))
	for _, n := range []int{math.MinInt, -1, 0, 1, 256, 257, 1 << 32, math.MaxInt} {
		for _, flag := range [][]byte{nil, {0}} {
			own := append(num(n), flag...)
			_, _, isFound := expectExact(t, slices.Concat(f[:found], own, f[found+len(none):]))
			_, isAnswer, _ := expectExact(t, slices.Concat(s[:under], own, s[under+len(none):]))
			if is := n == 0 && flag != nil; isFound != is || isAnswer != is {
				t.Errorf("count %d, flag %v: %v, %v", n, flag, isFound, isAnswer)
			}
		}
	}
}

// A proof of a label has just 80 bytes, a signature just 64 (P24.1).
func TestTextsOfOneLength(t *testing.T) {
	f := foundBytes(oneFound)
	s := answerBytes(wire.Answer{Kind: wire.Standing, Under: oneUnder})
	sig := len(s) - len(underBytes(oneUnder)) + len(proofBytes(oneUnder.Proof)) + 8 + 32
	for _, n := range []int{0, 1, 63, 64, 65, 79, 80, 81, 255, 256, 65535} {
		own := text(make([]byte, n))
		_, _, found := expectExact(t, slices.Concat(f[:8+32], own, f[8+32+82:]))
		if found != (n == 80) {
			t.Errorf("a label's proof of %d bytes: %v", n, found)
		}
		_, answer, _ := expectExact(t, slices.Concat(s[:sig], own, s[sig+66:]))
		if answer != (n == 64) {
			t.Errorf("a signature of %d bytes: %v", n, answer)
		}
	}
}

// roomy: these bytes, with spare room behind them.
func roomy(b []byte) []byte { return append(slices.Clone(b), "spare room"...)[:len(b)] }

func roomySums(l [][32]byte) [][32]byte {
	return append(slices.Clone(l), filled(0x99))[:len(l)]
}

// spoil: all bytes become others, up to the end of their room.
func spoil(lists ...[]byte) {
	for _, l := range lists {
		for i := range l[:cap(l)] {
			l[:cap(l)][i] ^= 0x55
		}
	}
}

func spoilSums(lists ...[][32]byte) {
	for _, l := range lists {
		for i := range l[:cap(l)] {
			spoil(l[:cap(l)][i][:])
		}
	}
}

func textsOf(r wire.Request) [][]byte { return [][]byte{r.Id, r.Label, r.Value, r.Bundle} }

func textsOfAnswer(a wire.Answer) [][]byte {
	all := [][]byte{a.Found.Value, a.Member.Id, a.Bundle}
	for _, e := range a.Entries {
		all = append(all, e.Value)
	}
	return all
}

func sumsOf(a wire.Answer) [][][32]byte {
	return [][][32]byte{a.Found.Proof.Sums, a.Later, a.Under.Proof.Sums, a.Under.Sums, a.Sums}
}

// roomyAnswer: the same one, of which each list has spare room.
func roomyAnswer(a wire.Answer) wire.Answer {
	a.Found.Value, a.Member.Id, a.Bundle = roomy(a.Found.Value), roomy(a.Member.Id), roomy(a.Bundle)
	a.Entries = append(slices.Clone(a.Entries), direct.Entry{Epoch: 9})[:len(a.Entries)]
	for i := range a.Entries {
		a.Entries[i].Value = roomy(a.Entries[i].Value)
	}
	a.Marks = append(slices.Clone(a.Marks), direct.Mark{Epoch: 9})[:len(a.Marks)]
	a.Found.Proof.Sums, a.Later, a.Sums = roomySums(a.Found.Proof.Sums), roomySums(a.Later), roomySums(a.Sums)
	a.Under.Proof.Sums, a.Under.Sums = roomySums(a.Under.Proof.Sums), roomySums(a.Under.Sums)
	return a
}

// room: all that stands in its lists, up to the end of their room.
func room(a wire.Answer) string {
	var all []any
	for _, b := range textsOfAnswer(a) {
		all = append(all, b[:cap(b)])
	}
	for _, l := range sumsOf(a) {
		all = append(all, l[:cap(l)])
	}
	return said(append(all, a.Entries[:cap(a.Entries)], a.Marks[:cap(a.Marks)]))
}

// What is handed in is neither changed, its spare room neither, nor kept; bytes that were told stay as they are (P24.3).
func TestWhatIsHandedIn(t *testing.T) {
	requests, answers := small()
	for _, r := range requests {
		r.Id, r.Label, r.Value, r.Bundle = roomy(r.Id), roomy(r.Label), roomy(r.Value), roomy(r.Bundle)
		var was [][]byte
		for _, b := range textsOf(r) {
			was = append(was, slices.Clone(b[:cap(b)]))
		}
		want := requestBytes(r)
		b, err := wire.Ask(r)
		for i, text := range textsOf(r) {
			if !bytes.Equal(text[:cap(text)], was[i]) {
				t.Errorf("kind %d: text %d is changed", r.Kind, i)
			}
		}
		spoil(textsOf(r)...)
		expect(t, "Ask", b, err, want, api.OK)
	}
	for _, a := range answers {
		a = roomyAnswer(a)
		was, want, wantFound := room(a), answerBytes(a), foundBytes(a.Found)
		b, err := wire.Tell(a)
		f, foundErr := wire.Saw(a.Found)
		if room(a) != was {
			t.Errorf("kind %d: a list is changed", a.Kind)
		}
		spoil(textsOfAnswer(a)...)
		spoilSums(sumsOf(a)...)
		clear(a.Marks[:cap(a.Marks)])
		expect(t, "Tell", b, err, want, api.OK)
		expect(t, "Saw", f, foundErr, wantFound, api.OK)
	}
}

// What is read shares nothing with the bytes, nor do its lists with one another; and it isn't told again otherwise (P24.3).
func TestWhatIsRead(t *testing.T) {
	requests, answers := small()
	expectSpoilt := func(b []byte, read func([]byte) (lists [][]byte, sums [][][32]byte, all any)) {
		t.Helper()
		own := roomy(b)
		ahead := slices.Clone(own[:cap(own)])
		lists, sums, all := read(own)
		was := said(all)
		if !bytes.Equal(own[:cap(own)], ahead) {
			t.Error("bytes are changed")
		}
		spoil(own)
		if said(all) != was {
			t.Errorf("bytes are kept: %s, not %s", said(all), was)
		}
		for i := range lists {
			expectApart(t, func() { spoil(lists[i]) }, slices.Delete(slices.Clone(lists), i, i+1), sums)
		}
		for i := range sums {
			expectApart(t, func() { spoilSums(sums[i]) }, lists, slices.Delete(slices.Clone(sums), i, i+1))
		}
		if _, _, again := read(b); said(again) != was {
			t.Errorf("read again: %s, not %s", said(again), was)
		}
	}
	for _, r := range requests {
		r.Value = []byte("value")
		expectSpoilt(requestBytes(r), func(b []byte) ([][]byte, [][][32]byte, any) {
			r, _ := wire.Asked(b)
			return textsOf(r), nil, r
		})
	}
	for _, a := range answers {
		a.Under.Proof = onePath
		expectSpoilt(answerBytes(a), func(b []byte) ([][]byte, [][][32]byte, any) {
			a, _ := wire.Told(b)
			return textsOfAnswer(a), sumsOf(a), a
		})
	}
	expectSpoilt(foundBytes(oneFound), func(b []byte) ([][]byte, [][][32]byte, any) {
		f, _ := wire.Seen(b)
		return [][]byte{f.Value}, [][][32]byte{f.Proof.Sums}, f
	})
}

// expectApart: what becomes of one list is nothing to the others.
func expectApart(t *testing.T, change func(), lists [][]byte, sums [][][32]byte) {
	t.Helper()
	was := said([]any{lists, sums})
	change()
	if said([]any{lists, sums}) != was {
		t.Error("lists of one answer share their memory")
	}
}
