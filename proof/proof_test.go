package proof_test

import (
	"bytes"
	"crypto/sha256"
	"slices"
	"testing"

	"custumal/api"
	"custumal/path"
	"custumal/proof"
	"custumal/tree"
)

func keyOf(seed int64) path.Key { return randomLeaves(seed, 1)[0].Key }

// expectCheck: that the answer is what the chapter says, and whether that is a refusal.
func expectCheck(t *testing.T, why string, root [32]byte, k path.Key, p proof.Proof, want api.Errno) {
	t.Helper()
	wantValue, wantOk, err := verdict(root, k, p)
	if err != want {
		t.Fatalf("%s: the test's own verdict is %v", why, err)
	}
	if value, ok, err := proof.Check(root, k, p); value != wantValue || ok != wantOk || err != want {
		t.Fatalf("%s: %x, %v, %v; not %x, %v, %v", why, value, ok, err, wantValue, wantOk, want)
	}
}

// The chapter's example: of the empty tree: no sums, not There; taken under Empty (P15.1).
func TestExample(t *testing.T) {
	for _, empty := range []*tree.Tree{nil, {}, tree.Of(nil)} {
		p := proof.Prove(empty, path.Key{1})
		if len(p.Sums) > 0 || p.There || p.End != (tree.Leaf{}) {
			t.Errorf("%v", p)
		}
		expectCheck(t, "of nothing", tree.Empty(), path.Key{1}, p, api.OK)
		expectCheck(t, "of nothing", tree.Empty(), path.Key{}, proof.Proof{}, api.OK)
		expectCheck(t, "under noughts", [32]byte{}, path.Key{}, proof.Proof{}, api.ErrProof)
	}
}

// Prove tells what Beside does (P15.1); that is taken under the tree's root, and says what Get does (P15.2).
func TestProve(t *testing.T) {
	for _, leaves := range lists() {
		made := tree.Of(leaves)
		other := made.Put(tree.Leaf{Key: path.Key{7}, Value: [32]byte{7}})
		for _, k := range asked(leaves) {
			p := proof.Prove(made, k)
			sums, end, there := made.Beside(k)
			if !equal(p, proof.Proof{Sums: sums, There: there, End: end}) {
				t.Fatalf("%d leaves, %x: %v", len(leaves), k, p)
			}
			wantValue, wantOk, _ := made.Get(k)
			if value, ok, err := proof.Check(made.Root(), k, p); value != wantValue || ok != wantOk || err != api.OK {
				t.Fatalf("%d leaves, %x: %x, %v, %v", len(leaves), k, value, ok, err)
			}
			expectCheck(t, "proved", made.Root(), k, p, api.OK)
			expectCheck(t, "under another version's root", other.Root(), k, p, api.ErrProof)
			if len(leaves) > 0 {
				expectCheck(t, "under Empty", tree.Empty(), k, p, api.ErrProof)
			}
		}
	}
}

// What comes out of a proof is taken: with no sums, with 256, with another one's leaf (P15.1).
func TestTaken(t *testing.T) {
	for _, k := range []path.Key{{}, keyOf(1), path.Key(bytes.Repeat([]byte{0xff}, 32)), path.Key(bytes.Repeat([]byte{0x55}, 32))} {
		for _, p := range proofs(k) {
			expectCheck(t, "made", rootOf(k, p), k, p, api.OK)
			// An end that isn't there isn't looked at.
			if !p.There {
				p.End = tree.Leaf{Key: k, Value: [32]byte{1}}
				expectCheck(t, "with an end that isn't there", rootOf(k, p), k, p, api.OK)
				p.End.Key = turned(k, 0)
				expectCheck(t, "with another one's end that isn't there", rootOf(k, p), k, p, api.OK)
			}
		}
	}
}

// More than 256 sums are refused, whatever comes out of them (P15.1).
func TestTooManySums(t *testing.T) {
	for _, k := range []path.Key{{}, keyOf(1)} {
		for _, n := range []int{257, 258, 300, 512, 65536, 65537} {
			for _, p := range []proof.Proof{{Sums: sums(1, n)}, {Sums: sums(1, n), There: true, End: tree.Leaf{Key: k, Value: [32]byte{1}}}} {
				expectCheck(t, "too many", rootOf(k, p), k, p, api.ErrProof)
			}
		}
	}
}

// An end whose key leaves the way ahead of the last sum is refused, though the root comes out; behind it, it says that there is nothing (P15.1).
func TestEndOfAnotherWay(t *testing.T) {
	for _, n := range []int{0, 1, 2, 8, 9, 100, 254, 255, 256} {
		k := keyOf(int64(n))
		for _, place := range []int{0, 1, 7, 8, n - 9, n - 8, n - 7, n - 2, n - 1, n, n + 1, n + 7, n + 8, 254, 255} {
			if place < 0 || place > 255 {
				continue
			}
			p := proof.Proof{Sums: sums(2, n), There: true, End: tree.Leaf{Key: turned(k, place), Value: [32]byte{1}}}
			want := api.OK
			if place < n {
				want = api.ErrProof
			}
			expectCheck(t, "another one's end", rootOf(k, p), k, p, want)
		}
	}
}

// wrong: proofs that differ from one in a bit, in a sum left out, put in, or in the place of another one.
func wrong(k path.Key, p proof.Proof) (all []proof.Proof) {
	add := func(change func(*proof.Proof)) {
		q := copyOf(p)
		change(&q)
		all = append(all, q)
	}
	for i := range min(len(p.Sums), 3) {
		for _, at := range []int{i, len(p.Sums) - 1 - i} {
			add(func(q *proof.Proof) { q.Sums[at] = turned(q.Sums[at], 85*i) })
			add(func(q *proof.Proof) { q.Sums[at] = turned(q.Sums[at], 255) })
			add(func(q *proof.Proof) { q.Sums = slices.Delete(q.Sums, at, at+1) })
			add(func(q *proof.Proof) { q.Sums = slices.Insert(q.Sums, at, q.Sums[at]) })
			add(func(q *proof.Proof) { q.Sums = slices.Insert(q.Sums, at, [32]byte{}) })
		}
		if i > 0 {
			add(func(q *proof.Proof) { q.Sums[i], q.Sums[0] = q.Sums[0], q.Sums[i] })
		}
	}
	add(func(q *proof.Proof) { q.Sums = append(q.Sums, [32]byte{}) })
	add(func(q *proof.Proof) { q.Sums = append(q.Sums, tree.Empty()) })
	add(func(q *proof.Proof) { q.Sums = slices.Insert(q.Sums, 0, tree.Empty()) })
	if len(p.Sums) > 0 {
		add(func(q *proof.Proof) { q.Sums = nil })
	}
	add(func(q *proof.Proof) { q.There = !q.There })
	if p.There {
		add(func(q *proof.Proof) { q.End.Value = turned(q.End.Value, 0) })
		add(func(q *proof.Proof) { q.End.Value = turned(q.End.Value, 255) })
		add(func(q *proof.Proof) { q.End.Key = turned(q.End.Key, 0) })
		add(func(q *proof.Proof) { q.End.Key = turned(q.End.Key, 255) })
		add(func(q *proof.Proof) { q.End.Key, q.End.Value = q.End.Value, path.Key(q.End.Key) })
	} else {
		add(func(q *proof.Proof) { q.There, q.End.Key = true, k })
	}
	// Sums that are alike may change places.
	return slices.DeleteFunc(all, func(q proof.Proof) bool { return equal(p, q) })
}

// Of what is not just the proof nothing is taken, nor under another root (P15.1).
func TestWrong(t *testing.T) {
	for _, leaves := range lists() {
		made := tree.Of(leaves)
		for _, k := range asked(leaves) {
			p := proof.Prove(made, k)
			for _, q := range wrong(k, p) {
				expectCheck(t, "a wrong proof", made.Root(), k, q, api.ErrProof)
			}
			for _, i := range []int{0, 8, 100, 255} {
				expectCheck(t, "a wrong root", turned(made.Root(), i), k, p, api.ErrProof)
			}
			expectOtherKeys(t, made, k, p)
		}
	}
	for _, p := range proofs(keyOf(3)) {
		for _, q := range wrong(keyOf(3), p) {
			expectCheck(t, "a wrong proof of a made one", rootOf(keyOf(3), p), keyOf(3), q, api.ErrProof)
		}
	}
}

// expectOtherKeys: under its way a proof shows that other keys have nothing, or what they have; beside it nothing.
func expectOtherKeys(t *testing.T, made *tree.Tree, k path.Key, p proof.Proof) {
	t.Helper()
	for i := range 256 {
		other, want := turned(k, i), api.OK
		if i < len(p.Sums) {
			want = api.ErrProof
		}
		expectCheck(t, "of another key", made.Root(), other, p, want)
	}
}

// Texts are those that Check sums up, in its order; of refused ones too (P15.1).
func TestTexts(t *testing.T) {
	some := map[path.Key][]proof.Proof{}
	for _, k := range []path.Key{{}, keyOf(5), path.Key(bytes.Repeat([]byte{0xff}, 32))} {
		some[k] = proofs(k)
		for _, n := range []int{257, 300, 65535, 65536, 65537, 65600} {
			some[k] = append(some[k], proof.Proof{Sums: sums(1, n)}, proof.Proof{Sums: sums(1, n), There: true, End: tree.Leaf{Key: keyOf(6)}})
		}
		some[k] = append(some[k], proof.Proof{There: true}, proof.Proof{There: true, Sums: sums(1, 9)}, proof.Proof{End: tree.Leaf{Key: k}})
	}
	for _, leaves := range lists() {
		for _, k := range asked(leaves) {
			some[k] = append(some[k], proof.Prove(tree.Of(leaves), k))
		}
	}
	for k, all := range some {
		for _, p := range all {
			if got, want := proof.Texts(k, p), textsOf(k, p); !slices.EqualFunc(got, want, bytes.Equal) {
				t.Fatalf("%x, %d sums, %v: %d texts, %.300x", k, len(p.Sums), p.There, len(got), got)
			}
		}
	}
}

// Texts stand on each other: the last one's sum is the root, and each has the sum of the one ahead on the key's side (P15.1, P15.3).
func TestTextsStandOnEachOther(t *testing.T) {
	for _, leaves := range lists() {
		made := tree.Of(leaves)
		for _, k := range asked(leaves) {
			p := proof.Prove(made, k)
			texts := proof.Texts(k, p)
			if len(texts) != len(p.Sums)+1 || sha256.Sum256(texts[len(p.Sums)]) != made.Root() {
				t.Fatalf("%d texts of %d sums", len(texts), len(p.Sums))
			}
			for i, text := range texts[1:] {
				depth := len(p.Sums) - 1 - i
				side := int(k[depth/8] >> (7 - depth%8) & 1)
				so, beside := text[3+32*side:][:32], text[3+32*(1-side):][:32]
				sum := sha256.Sum256(texts[i])
				if !bytes.Equal(so, sum[:]) || !bytes.Equal(beside, p.Sums[depth][:]) || !bytes.Equal(text[:3], []byte{1, 0, byte(depth)}) {
					t.Fatalf("text %d is %x", i+1, text)
				}
			}
		}
	}
}

// Of two proofs that say unlike things the texts, seen from the top, come to a place where both have one, and these are unlike: if both roots are one, so are the sums of these two (P15.3).
func TestUnlikeProofsHaveUnlikeTexts(t *testing.T) {
	type told struct {
		value [32]byte
		ok    bool
		texts [][]byte
	}
	k := keyOf(8)
	var all []told
	for _, p := range proofs(k) {
		for _, q := range append(wrong(k, p), p) {
			if value, ok, err := proof.Check(rootOf(k, q), k, q); err == api.OK {
				all = append(all, told{value, ok, proof.Texts(k, q)})
			}
		}
	}
	for _, p := range all {
		for _, q := range all {
			if (p.value != q.value || p.ok != q.ok) && !partAtATwin(p.texts, q.texts) {
				t.Fatalf("%x, %v and %x, %v have the same texts", p.value, p.ok, q.value, q.ok)
			}
		}
	}
}

// partAtATwin: is there a place, seen from the end, where both have a text, and these are unlike?
func partAtATwin(a, b [][]byte) bool {
	for i := 1; i <= min(len(a), len(b)); i++ {
		if !bytes.Equal(a[len(a)-i], b[len(b)-i]) {
			return true
		}
	}
	return false
}

// Nothing that is handed in is changed, its spare room neither, and what is told shares nothing with it (P15.4).
func TestKeepsOff(t *testing.T) {
	k := keyOf(9)
	for _, p := range proofs(k) {
		given := copyOf(p)
		proof.Check(rootOf(k, p), k, given)
		proof.Check([32]byte{}, k, given)
		texts := proof.Texts(k, given)
		proof.Put(nil, given)
		if !same(given, copyOf(p)) {
			t.Fatalf("a proof of %d sums is changed", len(p.Sums))
		}
		want := textsOf(k, p)
		for i := range given.Sums {
			given.Sums[i] = [32]byte{0xee}
		}
		if !slices.EqualFunc(texts, want, bytes.Equal) {
			t.Fatal("texts share their memory with a proof")
		}
		expectApart(t, texts, want)
	}
}

// expectApart: no text changes by what is done to another one, up to the end of its room.
func expectApart(t *testing.T, texts, want [][]byte) {
	t.Helper()
	for i := range texts {
		room := texts[i][:cap(texts[i])]
		was := slices.Clone(room)
		clear(room)
		for j := range texts {
			if j != i && !bytes.Equal(texts[j], want[j]) {
				t.Fatalf("texts %d and %d share their memory", i, j)
			}
		}
		copy(room, was)
	}
}

// What Prove tells is new memory: neither the tree nor another answer changes with it (P15.4).
func TestProofsAreNew(t *testing.T) {
	for _, leaves := range lists() {
		made := tree.Of(leaves)
		for _, k := range asked(leaves) {
			first, second := proof.Prove(made, k), proof.Prove(made, k)
			room := first.Sums[:cap(first.Sums)]
			for i := range room {
				room[i] = [32]byte{0xee}
			}
			expectCheck(t, "another answer", made.Root(), k, second, api.OK)
			expectCheck(t, "a later answer", tree.Of(leaves).Root(), k, proof.Prove(made, k), api.OK)
		}
	}
}
