package direct_test

import (
	"bytes"
	"slices"
	"testing"

	"custumal/api"
	"custumal/direct"
)

// roomy: these bytes, with spare room behind them.
func roomy(text string) []byte { return append([]byte(text), make([]byte, 50)...)[:len(text)] }

// filled: a directory of two epochs, and of puts that wait.
func filled(t *testing.T) (*direct.Directory, *book) {
	d, b := open(t, "filled", keys(70), most)
	for _, label := range []string{"a", "b", "c", "a"} {
		put(t, d, b, label, "value of "+label)
	}
	seal(t, d, b)
	put(t, d, b, "a", "newer")
	seal(t, d, b)
	put(t, d, b, "b", "waits")
	put(t, d, b, "new", "waits too")
	return d, b
}

var asked = []string{"a", "b", "c", "new", "never"}

// What is handed in is neither changed, its spare room neither, nor kept (P19.3).
func TestArgumentsAreLeftAlone(t *testing.T) {
	id, label, value := roomy("tenant"), roomy("label"), roomy("value")
	lists := [][]byte{id, label, value}
	was := [][]byte{}
	for _, l := range lists {
		was = append(was, slices.Clone(l[:cap(l)]))
	}
	_, b := open(t, "tenant", keys(71), most)
	d, err := direct.New(id, b.keys, most)
	if err != api.OK {
		t.Fatal(err)
	}
	for range 2 {
		if err := d.Put(label, value); err != api.OK {
			t.Fatal(err)
		}
		b.put([]byte("label"), []byte("value"))
		d.Lookup(label, -1)
		d.History(label)
		seal(t, d, b)
	}
	d.Put(label, value)
	b.put([]byte("label"), []byte("value"))
	for i, l := range lists {
		if !bytes.Equal(l[:cap(l)], was[i]) {
			t.Errorf("list %d is changed: %q", i, l[:cap(l)])
		}
		for j := range l[:cap(l)] {
			l[:cap(l)][j] = 'z'
		}
	}
	expectBook(t, d, b, "label", "zzzzz")
	seal(t, d, b)
	expectBook(t, d, b, "label", "zzzzz")
}

// spoil: all bytes of lists become others, up to the end of their room.
func spoil(lists ...[]byte) {
	for _, l := range lists {
		for i := range l[:cap(l)] {
			l[:cap(l)][i] ^= 0x55
		}
	}
}

// A directory is as it was, whatever becomes of its answers (P19.3).
func TestAnswersAreNew(t *testing.T) {
	d, b := filled(t)
	spoil(d.Id())
	for epoch := range 3 {
		for _, label := range asked {
			f, _ := d.Lookup([]byte(label), epoch)
			spoil(f.Value)
			sums := f.Proof.Sums[:cap(f.Proof.Sums)]
			for i := range sums {
				sums[i] = [32]byte{1}
			}
		}
		l, _ := d.Made(epoch)
		spoilPairs(l)
		marks, _ := d.Audit(0, epoch)
		clear(marks[:cap(marks)])
	}
	for _, label := range asked {
		entries, _ := d.History([]byte(label))
		for _, e := range entries {
			spoil(e.Value)
		}
		clear(entries[:cap(entries)])
	}
	spoilPairs(d.Waits())
	expectBook(t, d, b, asked...)
	put(t, d, b, "c", "one more")
	seal(t, d, b)
	expectBook(t, d, b, asked...)
}

func spoilPairs(l []direct.Pair) {
	for _, p := range l {
		spoil(p.Label, p.Value)
	}
	clear(l[:cap(l)])
}

// No two lists of one answer share their memory (P19.3).
func TestListsOfAnAnswerAreApart(t *testing.T) {
	d, _ := filled(t)
	pairs := func(l []direct.Pair) (all [][]byte) {
		for _, p := range l {
			all = append(all, p.Label, p.Value)
		}
		return all
	}
	expectApart(t, "Waits", pairs(d.Waits()))
	for epoch := range 3 {
		l, _ := d.Made(epoch)
		expectApart(t, "Made", pairs(l))
	}
	entries, _ := d.History([]byte("a"))
	var values [][]byte
	for _, e := range entries {
		values = append(values, e.Value)
	}
	expectApart(t, "History", values)
}

// expectApart: what becomes of one list is nothing to the others.
func expectApart(t *testing.T, why string, lists [][]byte) {
	t.Helper()
	for i, l := range lists {
		var was [][]byte
		for _, other := range lists {
			was = append(was, slices.Clone(other))
		}
		spoil(l)
		for j, other := range lists {
			if j != i && !bytes.Equal(other, was[j]) {
				t.Errorf("%s: lists %d and %d share their memory", why, i, j)
			}
		}
	}
}

// An answer stays as it is, whatever is put and sealed behind (P19.3).
func TestAnswersStay(t *testing.T) {
	d, b := filled(t)
	f, _ := d.Lookup([]byte("a"), -1)
	made, _ := d.Made(1)
	entries, _ := d.History([]byte("a"))
	marks, _ := d.Audit(0, 2)
	waits, id := d.Waits(), d.Id()
	was := said(f, made, entries, marks, waits, id)
	for _, label := range []string{"a", "b", "c", "a", "d"} {
		put(t, d, b, label, "later")
		seal(t, d, b)
	}
	expect(t, "answers", said(f, made, entries, marks, waits, id), was)
}
