package keep_test

import (
	"bytes"
	"crypto/ed25519"
	"math"
	"slices"
	"testing"

	"custumal/api"
	"custumal/disk"
	"custumal/keep"
	"custumal/super"
	"custumal/wire"
)

// journals are records that are laid on a disk by hand.
type journals struct {
	c      keep.Config
	common [][]byte
	own    [][][]byte
}

// whole: those of a store with one tenant that was deleted behind the last tick, one ahead of it, and some that are there; of each kind of record one at least.
func whole(t *testing.T) *journals {
	t.Helper()
	p := formatted(t, plain())
	for _, r := range []wire.Request{
		create("a", 1, wide),                  // 0
		put("a", "l", "v"),                    // 1
		create("early", 1, wide),              // 2
		{},                                    // 3
		of(wire.Delete, "early"),              // 4
		bring(packed("b", 1, 2, 3, true)),     // 5
		of(wire.Free, "b"),                    // 6
		put("b", "l", "w"),                    // 7
		bring(packed("late", 0, 1, 0, false)), // 8
		put("late", "l", "w"),                 // 9
		{},                                    // 10
		put("b", "m", ""),                     // 11
		of(wire.Delete, "late"),               // 12
		create("new", 1, wide),                // 13
		of(wire.Hold, "a"),                    // 14
	} {
		if r.Kind == 0 {
			p.tick(api.OK)
		} else {
			p.must(api.OK, r)
		}
	}
	return &journals{p.account.c, p.account.common, p.account.own}
}

func (j *journals) clone() *journals {
	own := slices.Clone(j.own)
	for i := range own {
		own[i] = slices.Clone(own[i])
	}
	return &journals{j.c, slices.Clone(j.common), own}
}

func (j *journals) disk(t *testing.T) *disk.Disk {
	t.Helper()
	return diskOf(t, imageOf(j.c, j.common, j.own))
}

// with: another record at that place.
func (j *journals) with(i int, rec []byte) *journals {
	j = j.clone()
	j.common[i] = rec
	return j
}

// flipped: a byte of a record is another one; of one below 0 that far from its end.
func (j *journals) flipped(i, at int) *journals {
	rec := slices.Clone(j.common[i])
	if at < 0 {
		at += len(rec)
	}
	rec[at] ^= 1
	return j.with(i, rec)
}

// without: a record fewer; more: one more, at the end.
func (j *journals) without(i int) *journals {
	j = j.clone()
	j.common = slices.Delete(j.common, i, i+1)
	return j
}

func (j *journals) more(recs ...[]byte) *journals {
	j = j.clone()
	j.common = append(j.common, recs...)
	return j
}

// expectFalse: the records make no host; and nothing is changed (P27.1).
func (j *journals) expectFalse(t *testing.T, why string) {
	t.Helper()
	d := j.disk(t)
	if s, err := keep.Open(d, j.c); s != nil || err != api.ErrFalse {
		t.Errorf("%s: %v, %v", why, s, err)
	}
	if d.Waiting() != 0 || !slices.Equal(blocksOf(t, d), imageOf(j.c, j.common, j.own)) {
		t.Errorf("%s: a call that refused changed something", why)
	}
}

func (j *journals) expectState(t *testing.T, why string, want []byte) {
	t.Helper()
	s, err := keep.Open(j.disk(t), j.c)
	if err != api.OK || string(s.Host().State()) != string(want) {
		t.Errorf("%s: %v, or another State", why, err)
	}
}

func asked(r wire.Request) []byte {
	b, err := wire.Ask(r)
	if err != api.OK {
		panic(err)
	}
	return b
}

// Records that aren't in form, each in turn (P27.1).
func TestNotInForm(t *testing.T) {
	j := whole(t)
	for i, rec := range j.common {
		j.with(i, nil).expectFalse(t, "empty")
		for _, kind := range []byte{0, 6, 7, 255} {
			j.with(i, slices.Concat([]byte{kind}, rec[1:])).expectFalse(t, "of no kind")
		}
		j.with(i, rec[:len(rec)-1]).expectFalse(t, "a byte less")
		j.with(i, append(slices.Clone(rec), 0)).expectFalse(t, "a byte more")
		j.with(i, rec[:1]).expectFalse(t, "its kind alone")
		for kind := range byte(6) {
			if kind != rec[0] {
				j.with(i, slices.Concat([]byte{kind}, rec[1:])).expectFalse(t, "of another kind")
			}
		}
	}
	j.with(14, slices.Concat([]byte{2}, asked(of(wire.Hold, "a")), []byte{0})).expectFalse(t, "a request and more")
}

// Records that are in form, but tell what can't be behind those ahead of them (P27.1).
func TestRecordsMakeNone(t *testing.T) {
	j := whole(t)
	for name, bad := range map[string]*journals{
		"another kind of request: put":        j.with(14, askedRecord(asked(put("a", "l", "v")))),
		"another kind of request: delete":     j.with(14, askedRecord(asked(of(wire.Delete, "a")))),
		"another kind of request: standing":   j.with(14, askedRecord(asked(of(wire.Standing, "a")))),
		"another kind of request: look":       j.with(14, askedRecord(asked(look("a", "l", -1)))),
		"another kind of request: import":     j.with(14, askedRecord(asked(bring(packed("x", 0, 1, 0, false))))),
		"refused: create of one there":        j.more(j.common[13]),
		"refused: create of one gone":         j.with(13, askedRecord(asked(create("early", 1, wide)))),
		"refused: create of no period":        j.with(13, askedRecord(asked(create("new", 0, wide)))),
		"refused: create without a place":     j.more(askedRecord(asked(create("x", 1, wide)))),
		"refused: hold of one held":           j.more(j.common[14]),
		"refused: free of one live":           j.more(j.common[6]),
		"refused: hold of nobody":             j.with(14, askedRecord(asked(of(wire.Hold, "x")))),
		"put: a place that there isn't":       j.with(11, putRecord(3, 2)),
		"put: a place far out":                j.with(11, putRecord(255, 2)),
		"put: a place that nobody has":        j.more(deleteRecord("new", false, 0, [32]byte{}), putRecord(2, 0)),
		"put: a place nobody has had":         j.with(1, putRecord(1, 0)),
		"put: no such record":                 j.with(11, putRecord(1, 3)),
		"put: a record below 0":               j.with(11, putRecord(1, -1)),
		"put: a record far out":               j.with(11, putRecord(1, math.MaxInt)),
		"put: a record far below":             j.with(11, putRecord(1, math.MinInt)),
		"put: of an import":                   j.with(11, putRecord(1, 0)),
		"put: of one held":                    j.more(putRecord(0, 0)),
		"delete: of nobody":                   j.more(deleteRecord("x", false, 0, [32]byte{})),
		"delete: of nobody, a member":         j.more(deleteRecord("x", true, 0, [32]byte{})),
		"delete: of one gone":                 j.more(deleteRecord("early", false, 0, [32]byte{})),
		"delete: of no id":                    j.more(deleteRecord("", false, 0, [32]byte{})),
		"delete: of one that isn't a member":  j.more(deleteRecord("new", true, 0, [32]byte{})),
		"delete: of a member, told as none":   j.more(deleteRecord("b", false, 0, [32]byte{})),
		"delete: another epoch":               j.flipped(12, 15),
		"delete: another link":                j.flipped(12, -1),
		"delete: of a member, early, as none": j.with(4, deleteRecord("early", false, 0, [32]byte{})),
		"import: another id":                  j.with(5, importRecord("x", 1, 0, 2, 3, true)),
		"import: another place":               j.with(5, importRecord("b", 2, 0, 2, 3, true)),
		"import: a place that there isn't":    j.with(5, importRecord("b", 3, 0, 2, 3, true)),
		"import: another number":              j.with(5, importRecord("b", 1, 1, 2, 3, true)),
		"import: a number far out":            j.with(5, importRecord("b", 1, math.MaxInt, 2, 3, true)),
		"import: a number below 0":            j.with(5, importRecord("b", 1, -1, 2, 3, true)),
		"import: another period":              j.with(5, importRecord("b", 1, 0, 1, 3, true)),
		"import: another age":                 j.with(5, importRecord("b", 1, 0, 2, 1, true)),
		"import: not held":                    j.with(5, importRecord("b", 1, 0, 2, 3, false)),
		"import: of one deleted, elsewhere":   j.with(8, importRecord("late", 1, 0, 1, 0, false)),
		"import: of one deleted, no period":   j.with(8, importRecord("late", 2, 0, 0, 0, false)),
		"import: of one deleted, an age < 0":  j.with(8, importRecord("late", 2, 0, 1, -1, false)),
		"import: of one deleted, of no id":    j.with(8, importRecord("", 2, 0, 1, 0, false)).with(12, deleteRecord("", false, 0, [32]byte{})),
		"tick: another root":                  j.flipped(10, 1),
		"tick: another signature":             j.flipped(10, -1),
		"tick: another root, early":           j.flipped(3, 1),
		"tick: another signature, early":      j.flipped(3, -1),
		"tick: that of another":               j.with(10, j.common[3]),
		"tick: once more":                     j.more(j.common[10]),
		"one fewer: create":                   j.without(0),
		"one fewer: put":                      j.without(1),
		"one fewer: tick":                     j.without(3),
		"one fewer: import":                   j.without(5),
		"one fewer: free":                     j.without(6),
		"one fewer: delete":                   j.without(12),
	} {
		bad.expectFalse(t, name)
	}
}

// The tenants' journals aren't what the common one says (P27.1).
func TestOwnRecordsMakeNone(t *testing.T) {
	j := whole(t)
	for name, change := range map[string]func(own [][][]byte){
		"none":                 func(own [][][]byte) { own[0] = nil },
		"one fewer":            func(own [][][]byte) { own[1] = own[1][:2] },
		"of another tenant":    func(own [][][]byte) { own[0][0] = own[1][1] },
		"no request":           func(own [][][]byte) { own[0][0] = []byte{5} },
		"another kind":         func(own [][][]byte) { own[0][0] = asked(look("a", "l", 0)) },
		"another value":        func(own [][][]byte) { own[0][0] = asked(put("a", "l", "u")) },
		"another bundle":       func(own [][][]byte) { own[1][0] = asked(bring(packed("b", 2, 2, 3, true))) },
		"no bundle":            func(own [][][]byte) { own[1][0] = asked(bring([]byte("none"))) },
		"a put for an import":  func(own [][][]byte) { own[1][0] = own[1][1] },
		"an import for a put":  func(own [][][]byte) { own[1][1] = own[1][0] },
		"a put that's refused": func(own [][][]byte) { own[0][0] = asked(put("a", "", "v")) },
	} {
		bad := j.clone()
		change(bad.own)
		bad.expectFalse(t, name)
	}
	// Where a record says a put of the tenant at its place, one of another, or a Hold, isn't one, even if the host would do it.
	for _, other := range []wire.Request{put("b", "m", ""), of(wire.Hold, "a")} {
		bad := j.with(11, putRecord(0, 1))
		bad.own[0] = append(bad.own[0], asked(other))
		bad.common = bad.common[:14]
		bad.expectFalse(t, "not a put of its tenant's")
	}
}

// An import's place is the one that the host gives, also where the bytes are there, and of one of whom nothing is left (P27.1).
func TestImportElsewhere(t *testing.T) {
	j := whole(t)
	left := j.with(13, importRecord("x", 2, 0, 1, 0, false)).more(deleteRecord("x", false, 0, [32]byte{}))
	if _, err := keep.Open(left.disk(t), left.c); err != api.OK {
		t.Errorf("where it is: %v", err)
	}
	for _, place := range []int{0, 1, 3, 255} {
		left.with(13, importRecord("x", place, 0, 1, 0, false)).expectFalse(t, "of one deleted")
	}
	there := j.clone()
	there.common = append(slices.Clone(j.common[:13]), importRecord("x", 2, 0, 1, 0, false))
	for place := range there.own {
		there.own[place] = append(there.own[place], asked(bring(packed("x", 0, 1, 0, false))))
		number := len(there.own[place]) - 1
		at := there.with(13, importRecord("x", place, number, 1, 0, false))
		if place != 2 {
			at.expectFalse(t, "of one who is there")
		} else if _, err := keep.Open(at.disk(t), at.c); err != api.OK {
			t.Errorf("where it is: %v", err)
		}
	}
}

// A tick's signature has all its bytes, also if the last one is a nought (P27.1).
func TestShortSignature(t *testing.T) {
	c := plain()
	for n := byte(1); n != 0; n++ {
		c.Seed[1] = n
		p := formatted(t, c)
		p.tick(api.OK)
		j := &journals{c, p.account.common, p.account.own}
		if rec := j.common[0]; rec[len(rec)-1] == 0 {
			j.with(0, tickRecord([32]byte(rec[1:]), rec[35:len(rec)-1])).expectFalse(t, "a byte less")
			return
		}
	}
	t.Error("no signature ends so")
}

// Another config than that of Format: another seed, fewer places, another first tick near the end (P27.1).
func TestOtherConfig(t *testing.T) {
	j := whole(t)
	other := j.clone()
	other.c.Seed[0] ^= 1
	other.expectFalse(t, "another seed")
	d := j.disk(t)
	fewer := j.c
	fewer.Places = 2
	if s, err := keep.Open(d, fewer); s != nil || err != api.ErrFalse {
		t.Errorf("fewer places: %v", err)
	}
	late := j.clone()
	late.c.Now = math.MaxInt - 1
	late.expectFalse(t, "no tick left")
	// A place more is none's, and all others are where they were.
	more := j.c
	more.Places = 4
	d = diskOf(t, append(imageOf(j.c, j.common, j.own), make([]disk.Block, j.c.Each)...))
	if s, err := keep.Open(d, more); err != api.OK || string(s.Do(asked(create("x", 1, wide)))) != string(told(wire.Answer{Kind: wire.Create})) {
		t.Errorf("a place more: %v", err)
	}
}

// A root that another host would have signed by the same seed is none of this one's, also where it isn't the last one (P27.1, P27.3).
func TestSignedRootOfAnotherHost(t *testing.T) {
	p := formatted(t, plain())
	p.must(api.OK, create("a", 1, wide))
	p.tick(api.OK)
	p.tick(api.OK)
	j := &journals{p.account.c, p.account.common, p.account.own}
	key := ed25519.NewKeyFromSeed(j.c.Seed[:])
	for i, epoch := range map[int]int{1: 1, 2: 2} {
		root := [32]byte{1}
		text := slices.Concat([]byte{8}, num(epoch), root[:])
		if super.Check(p.store.Host().Public(), super.Signed{Epoch: epoch, Root: root, Sig: [64]byte(ed25519.Sign(key, text))}) != api.OK {
			t.Fatal("it isn't signed")
		}
		j.with(i, tickRecord(root, ed25519.Sign(key, text))).expectFalse(t, "another root")
	}
}

// Records that nothing tells of are passed over, at either end and between, also where they would be refused; those of one that was deleted aren't asked for (P27.1, P27.2).
func TestOrphans(t *testing.T) {
	p := formatted(t, plain())
	p.must(api.OK, create("a", 1, wide))
	p.must(api.OK, put("a", "l", "v"))
	p.tick(api.OK)
	p.must(api.OK, put("a", "l", "w"))
	want := p.store.Host().State()
	j := &journals{p.account.c, p.account.common, p.account.own}
	orphans := [][]byte{asked(put("a", "x", "y")), asked(put("b", "", "")), nil, {9}, bytes.Repeat([]byte{1}, 300)}
	for i, o := range orphans {
		other := orphans[(i+1)%len(orphans)]
		odd := j.with(1, putRecord(0, 1)).with(3, putRecord(0, 4))
		odd.own[0] = [][]byte{o, j.own[0][0], other, o, j.own[0][1], other}
		odd.expectState(t, "orphans", want)
		d := odd.disk(t)
		s := opened(t, d, odd.c)
		s.Do(asked(put("a", "l", "x")))
		if recs := recordsAt(t, d, 0, odd.c.Common); string(recs[len(recs)-1]) != string(putRecord(0, 6)) {
			t.Errorf("a put behind orphans: %x", recs[len(recs)-1])
		}
	}
	gone := whole(t)
	gone.with(9, putRecord(2, math.MaxInt)).expectState(t, "of one deleted", opened(t, gone.disk(t), gone.c).Host().State())
}
