package tree_test

import (
	"encoding/hex"
	"math"
	"math/rand"
	"slices"
	"testing"

	"custumal/path"
	"custumal/tree"
)

// expectTree: all that it tells is what these leaves say, no two of which have one key.
func expectTree(t *testing.T, why string, got *tree.Tree, leaves []tree.Leaf) {
	t.Helper()
	if got.Len() != len(leaves) || got.Root() != sumOf(0, leaves) || !slices.Equal(got.Leaves(), last(leaves)) {
		t.Fatalf("%s: %d leaves, root %x, %x", why, got.Len(), got.Root(), got.Leaves())
	}
	for _, k := range asked(leaves) {
		expectKey(t, why, got, leaves, k)
	}
}

func expectKey(t *testing.T, why string, got *tree.Tree, leaves []tree.Leaf, k path.Key) {
	t.Helper()
	wantSums, end := besideOf(leaves, k)
	var wantEnd tree.Leaf
	var want [32]byte
	if len(end) > 0 {
		wantEnd = end[0]
	}
	is := len(end) > 0 && wantEnd.Key == k
	if is {
		want = wantEnd.Value
	}
	if value, ok, met := got.Get(k); value != want || ok != is || met != len(wantSums)+len(end) {
		t.Fatalf("%s: Get(%x): %x, %v, %d; not %x, %v, %d", why, k, value, ok, met, want, is, len(wantSums)+len(end))
	}
	sums, leaf, there := got.Beside(k)
	if !slices.Equal(sums, wantSums) || leaf != wantEnd || there != (len(end) > 0) {
		t.Fatalf("%s: Beside(%x): %d sums, %x, %v; not %d, %x", why, k, len(sums), leaf, there, len(wantSums), end)
	}
}

// putAll: a tree made by Put alone.
func putAll(leaves []tree.Leaf) (t *tree.Tree) {
	for _, l := range leaves {
		t = t.Put(l)
	}
	return t
}

func shuffled(seed int64, leaves []tree.Leaf) []tree.Leaf {
	all := slices.Clone(leaves)
	rand.New(rand.NewSource(seed)).Shuffle(len(all), func(i, j int) { all[i], all[j] = all[j], all[i] })
	return all
}

func expectSum(t *testing.T, why string, got [32]byte, want string) {
	t.Helper()
	if hex.EncodeToString(got[:]) != want {
		t.Errorf("%s: %x, not %s", why, got, want)
	}
}

// The chapter's example: of no leaf Root is the sum of 02 (P14.1).
func TestExample(t *testing.T) {
	const want = "dbc1b4c900ffe48d575b5da5c638040125f65db0fe3e24494b76ea986457d986"
	expectSum(t, "Empty", tree.Empty(), want)
	expectSum(t, "Root", tree.Of(nil).Root(), want)
}

// The sums are those of the chapter's texts; a depth counts modulo 65536 (P14.1).
func TestSums(t *testing.T) {
	if tree.Empty() != emptySum() {
		t.Errorf("Empty: %x", tree.Empty())
	}
	some := append(random(1, 5), tree.Leaf{}, tree.Leaf{Key: path.Key{1}}, tree.Leaf{Value: [32]byte{31: 1}})
	for _, l := range some {
		if got := tree.LeafSum(l); got != leafSum(l) {
			t.Errorf("LeafSum(%x): %x", l, got)
		}
		for _, depth := range []int{
			0, 1, 2, 127, 128, 255, 256, 257, 4660, 32767, 32768, 65535, 65536, 65537, 1<<31 + 258, 1<<32 + 3,
			-1, -2, -255, -256, -257, -65535, -65536, -65537, math.MaxInt, math.MinInt, math.MinInt + 513,
		} {
			want := nodeSum((depth%65536+65536)%65536, l.Key, l.Value)
			if got := tree.NodeSum(depth, l.Key, l.Value); got != want {
				t.Errorf("NodeSum(%d): %x", depth, got)
			}
		}
	}
}

// A tree has the leaves it is made of, by Of or by Put (P14.1).
func TestTrees(t *testing.T) {
	for _, leaves := range lists() {
		expectTree(t, "Of", tree.Of(leaves), leaves)
		expectTree(t, "Put", putAll(leaves), leaves)
		for i, l := range leaves[:min(len(leaves), 3)] {
			most := slices.Delete(slices.Clone(leaves), i, i+1)
			expectTree(t, "Of and Put", tree.Of(most).Put(l), leaves)
		}
	}
}

// Trees of no leaf are all alike, nil and the zero value too (P14.1).
func TestEmptyTrees(t *testing.T) {
	var none *tree.Tree
	l := random(3, 1)
	for _, empty := range []*tree.Tree{none, {}, tree.Of(nil), tree.Of([]tree.Leaf{})} {
		expectTree(t, "empty", empty, nil)
		expectTree(t, "empty, and a leaf", empty.Put(l[0]), l)
	}
}

// The nodes met are the sums of more than one leaf, and the leaf at the end, also another one's (P14.1).
func TestNodesMet(t *testing.T) {
	leaves := []tree.Leaf{{Key: path.Key{0xc0}}, {Key: path.Key{0xe0}, Value: [32]byte{7}}}
	for _, c := range []struct {
		leaves []tree.Leaf
		key    path.Key
		there  bool
		want   int
	}{
		{nil, path.Key{}, false, 0}, {leaves[:1], path.Key{0xc0}, true, 1}, {leaves[:1], path.Key{}, false, 1},
		{leaves, path.Key{0xc0}, true, 4}, {leaves, path.Key{0xe0}, true, 4}, {leaves, path.Key{0xf0}, false, 4},
		{leaves, path.Key{0xc1}, false, 4}, {leaves, path.Key{0x80}, false, 2}, {leaves, path.Key{0xa0}, false, 2}, {leaves, path.Key{}, false, 1},
		{near(7, 255), near(7)[0].Key, true, 257}, {near(7, 255), turned(near(7)[0].Key, 255), true, 257},
		{near(7, 255), turned(near(7)[0].Key, 254), false, 255}, {near(7, 0), near(7)[0].Key, true, 2},
	} {
		if _, there, met := tree.Of(c.leaves).Get(c.key); there != c.there || met != c.want {
			t.Errorf("%d leaves, %x: %v, %d; not %v, %d", len(c.leaves), c.key, there, met, c.there, c.want)
		}
	}
}

// Of the leaves of one key the last one counts (P14.1).
func TestOneKeyTwice(t *testing.T) {
	for _, leaves := range lists() {
		others := random(31, len(leaves))
		for i := range others {
			others[i].Key = leaves[i].Key
		}
		for _, twice := range [][]tree.Leaf{
			slices.Concat(leaves, others), slices.Concat(others, leaves), slices.Concat(leaves, others, leaves),
			slices.Concat(leaves, leaves), shuffled(32, slices.Concat(leaves, others, others, leaves)),
		} {
			expectTree(t, "Of", tree.Of(twice), last(twice))
			expectTree(t, "Put", putAll(twice), last(twice))
		}
	}
	// A list that is long enough to be sorted in other ways.
	var long []tree.Leaf
	for i := range 1000 {
		long = append(long, tree.Leaf{Key: path.Key{byte(i * i % 7)}, Value: [32]byte{byte(i), byte(i >> 8)}})
	}
	expectTree(t, "Of a long one", tree.Of(long), last(long))
	expectTree(t, "Put of a long one", putAll(long), last(long))
}

// The order in which leaves are put is nothing (P14.3).
func TestOrder(t *testing.T) {
	for _, leaves := range lists() {
		back := slices.Clone(leaves)
		slices.Reverse(back)
		for seed := range int64(3) {
			for _, mixed := range [][]tree.Leaf{shuffled(seed, leaves), back, last(leaves)} {
				expectSame(t, leaves, tree.Of(mixed), putAll(mixed), tree.Of(mixed[:len(mixed)/2]))
			}
		}
	}
	// A leaf of one key in the place of another one, too early and too late.
	leaves := random(9, 6)
	early := tree.Leaf{Key: leaves[2].Key, Value: [32]byte{1}}
	expectSame(t, leaves, tree.Of(slices.Insert(slices.Clone(leaves), 0, early)), putAll(slices.Insert(slices.Clone(leaves), 1, early)), nil)
}

// expectSame: two trees of these leaves, and a third one to which they are put.
func expectSame(t *testing.T, leaves []tree.Leaf, a, b, less *tree.Tree) {
	t.Helper()
	for _, l := range leaves {
		less = less.Put(l)
	}
	want := tree.Of(leaves)
	for i, other := range []*tree.Tree{a, b, less} {
		if other.Root() != want.Root() || other.Len() != want.Len() || !slices.Equal(other.Leaves(), want.Leaves()) {
			t.Fatalf("tree %d of %d leaves is another one", i, len(leaves))
		}
	}
}

// No version changes, whatever is put into it and into others (P14.2).
func TestVersionsStay(t *testing.T) {
	for _, leaves := range lists() {
		versions, has := []*tree.Tree{nil}, [][]tree.Leaf{nil}
		add := func(from int, l tree.Leaf) {
			versions = append(versions, versions[from].Put(l))
			has = append(has, last(append(slices.Clone(has[from]), l)))
		}
		for i, l := range leaves[:min(len(leaves), 12)] {
			add(len(versions)-1, l)
			// Others go on from the same version: with another leaf, with another value, and with what it has.
			add(len(versions)-1, tree.Leaf{Key: turned(l.Key, 255-i), Value: [32]byte{1}})
			add(len(versions)-2, tree.Leaf{Key: l.Key, Value: [32]byte{2}})
			add(len(versions)-3, l)
			add(i, l)
		}
		for i := range versions {
			expectTree(t, "a version", versions[i], has[i])
		}
	}
}

// A version that Of made stays too (P14.2).
func TestMadeStays(t *testing.T) {
	for _, leaves := range lists() {
		made := tree.Of(leaves)
		for _, k := range asked(leaves) {
			other := made.Put(tree.Leaf{Key: k, Value: [32]byte{9}})
			other.Put(tree.Leaf{Key: turned(k, 255), Value: [32]byte{8}})
			made.Put(tree.Leaf{Key: turned(k, 200)})
		}
		expectTree(t, "made", made, leaves)
	}
}

// Neither the list nor its spare room is changed or kept (P14.4).
func TestListIsLeftAlone(t *testing.T) {
	for _, leaves := range lists() {
		twice := shuffled(1, slices.Concat(leaves, leaves))
		room := append(slices.Clone(twice), random(2, 4)...)
		was := slices.Clone(room)
		made := tree.Of(room[:len(twice)])
		made.Put(random(3, 1)[0])
		if !slices.Equal(room, was) {
			t.Fatalf("a list of %d leaves is changed", len(twice))
		}
		for i := range room {
			room[i] = tree.Leaf{Value: [32]byte{0xee}}
		}
		expectTree(t, "made of a list that changed", made, leaves)
	}
}

// Answers are new memory, up to the end of their room (P14.4).
func TestAnswersAreNew(t *testing.T) {
	for _, leaves := range lists() {
		made := putAll(leaves)
		first, second := made.Leaves(), made.Leaves()
		first = first[:cap(first)]
		for i := range first {
			first[i] = tree.Leaf{Value: [32]byte{0xee}}
		}
		if !slices.Equal(second, last(leaves)) {
			t.Fatal("two answers of Leaves share their memory")
		}
		for _, k := range asked(leaves)[:min(len(leaves), 10)] {
			want, _ := besideOf(leaves, k)
			sums, _, _ := made.Beside(k)
			others, _, _ := made.Beside(k)
			sums = sums[:cap(sums)]
			for i := range sums {
				sums[i] = [32]byte{0xee}
			}
			if !slices.Equal(others, want) {
				t.Fatal("two answers of Beside share their memory")
			}
		}
		expectTree(t, "behind changed answers", made, leaves)
		expectTree(t, "one more", made.Put(tree.Leaf{}), last(append(slices.Clone(leaves), tree.Leaf{})))
	}
}

// Keys that leave another one's way at each bit there is: a node at each depth, and a leaf beside each (P14.1, P14.3).
func TestLeafAtEachDepth(t *testing.T) {
	leaves := near(14, every(1)...)
	expectTree(t, "Of", tree.Of(shuffled(1, leaves)), leaves)
	expectTree(t, "Put", putAll(shuffled(2, leaves)), leaves)
}

// Of a tree of many leaves each one is found (P14.1).
func TestManyLeaves(t *testing.T) {
	leaves := random(77, 3000)
	made := tree.Of(leaves)
	if made.Len() != len(leaves) || made.Root() != sumOf(0, leaves) || made.Root() != putAll(leaves).Root() || !slices.Equal(made.Leaves(), last(leaves)) {
		t.Fatal("a tree of many leaves is another one")
	}
	for _, l := range leaves {
		if value, ok, met := made.Get(l.Key); value != l.Value || !ok || met < 5 {
			t.Fatalf("Get(%x): %x, %v, %d", l.Key, value, ok, met)
		}
		if value, ok, _ := made.Get(turned(l.Key, 255)); value != [32]byte{} || ok {
			t.Fatalf("Get near %x: %x", l.Key, value)
		}
	}
}
