package extract_test

import (
	"fmt"
	"math"
	"math/bits"
	"testing"

	"custumal/api"
	"custumal/direct"
	"custumal/extract"
	"custumal/proof"
	"custumal/super"
	"custumal/tree"
	"custumal/wire"
)

// The texts of what a host answers (P30.1).
func TestTextsOfHosts(t *testing.T) {
	h := hosted(t)
	for _, id := range []string{"a", "b", "sixteen bytes id"} {
		for _, label := range []string{"l", "m", "never"} {
			for at := -1; at <= 2; at++ {
				a := serve(t, h, wire.Request{Kind: wire.Lookup, Id: []byte(id), Label: []byte(label), From: at})
				expectTexts(t, fmt.Sprintf("a look for %q of %q at %d", label, id, at), extract.Look([]byte(id), a), lookTexts([]byte(id), a))
			}
		}
	}
	for _, id := range []string{"a", "b", "c", "sixteen bytes id"} {
		a := serve(t, h, wire.Request{Kind: wire.Standing, Id: []byte(id)})
		expectTexts(t, fmt.Sprintf("how %q stands", id), extract.Stand([]byte(id), a), standTexts([]byte(id), a))
	}
}

// sums: as many, all unlike.
func sums(count int) (l [][32]byte) {
	for i := range count {
		l = append(l, sumOf(fmt.Sprint("sum ", i)))
	}
	return l
}

// odd: answers that no host tells, and no client takes.
func odd() map[string]wire.Answer {
	var full wire.Answer
	full.Found = direct.Found{Epoch: 3, Index: sumOf("index"), Version: 4, Value: []byte("value"), Open: sumOf("open"), Root: sumOf("root"), Ahead: sumOf("ahead"), Link: sumOf("link")}
	full.Found.Proof = proof.Proof{Sums: sums(5), There: true, End: tree.Leaf{Key: sumOf("key"), Value: sumOf("value")}}
	full.Under.Proof = proof.Proof{Sums: sums(3), There: true, End: tree.Leaf{Key: sumOf("another key")}}
	full.Member = super.Member{Id: []byte("id"), Epoch: 9, Link: sumOf("member")}
	full.Later = sums(4)
	all := map[string]wire.Answer{"nothing": {}, "without a kind": full}
	with := func(why string, change func(a *wire.Answer)) {
		a := full
		change(&a)
		all[why] = a
	}
	with("an error", func(a *wire.Answer) { a.Kind, a.Err = wire.Lookup, api.ErrMiss })
	with("present", func(a *wire.Answer) { a.Found.Present = true })
	with("present, of a version below 0 and no value", func(a *wire.Answer) {
		a.Found.Present, a.Found.Version, a.Found.Value = true, -1, nil
	})
	with("gone", func(a *wire.Answer) { a.Member.Gone = true })
	with("a member far below 0", func(a *wire.Answer) { a.Member.Epoch = math.MinInt })
	with("epoch 0", func(a *wire.Answer) { a.Found.Epoch = 0 })
	with("epoch -2", func(a *wire.Answer) { a.Found.Epoch = -2 })
	with("the last epoch", func(a *wire.Answer) { a.Found.Epoch = math.MaxInt })
	with("2^62", func(a *wire.Answer) { a.Found.Epoch = 1 << 62 })
	with("none behind", func(a *wire.Answer) { a.Later = nil })
	with("proofs that end in nothing", func(a *wire.Answer) { a.Found.Proof.There, a.Under.Proof.There = false, false })
	with("proofs without sums", func(a *wire.Answer) { a.Found.Proof.Sums, a.Under.Proof.Sums = nil, nil })
	with("proofs of many sums", func(a *wire.Answer) { a.Found.Proof.Sums, a.Under.Proof.Sums = sums(300), sums(256) })
	return all
}

// The texts of answers that no client takes: those that were summed up, were it to go so far (P30.1).
func TestTextsOfOddAnswers(t *testing.T) {
	for why, a := range odd() {
		for _, id := range [][]byte{nil, []byte("id"), make([]byte, 70000)} {
			expectTexts(t, "a look, "+why, extract.Look(id, a), lookTexts(id, a))
			expectTexts(t, "a standing, "+why, extract.Stand(id, a), standTexts(id, a))
		}
	}
}

// logged: an answer whose super-root has that number; all its sums are of a log of any past.
func logged(epoch int) (a wire.Answer) {
	a.Kind = wire.Standing
	a.Under.Signed = super.Signed{Epoch: epoch, Root: sumOf(fmt.Sprint("root ", epoch))}
	a.Under.Sums = sums(bits.OnesCount(uint(epoch)))
	_, a.Under.Log = pathTexts(string(super.Text(epoch, a.Under.Signed.Root)), epoch, epoch+1, a.Under.Sums)
	return a
}

// told: how many sums SUB of m in n tells.
func told(m, n int, all bool) int {
	switch {
	case m == n && all:
		return 0
	case m == n:
		return 1
	case m <= split(n):
		return 1 + told(m, split(n), all)
	}
	return 1 + told(m-split(n), n-split(n), false)
}

// The texts of a root's place in a log, and of the log's growth (P30.1).
func TestTextsOfLogs(t *testing.T) {
	epochs := []int{1<<40 + 5, 1 << 61, 1<<62 - 2, 1<<62 - 1}
	for epoch := range 20 {
		epochs = append(epochs, epoch)
	}
	for _, epoch := range epochs {
		a := logged(epoch)
		ends := []int{math.MinInt, -1, 0, epoch - 1, epoch, epoch + 1, 1 << 62, 1<<62 + 1, math.MaxInt}
		for i := range 20 {
			ends = append(ends, epoch+2+i)
		}
		for _, to := range ends {
			count := 0
			if to > epoch+1 {
				count = told(epoch+1, to, true)
			}
			why := fmt.Sprintf("super-epoch %d in %d", epoch, to)
			expectTexts(t, why, extract.Log(a, to, sums(count)), logTexts(a, to, sums(count)))
			if to <= epoch+1 {
				expectTexts(t, why+", with sums", extract.Log(a, to, sums(3)), logTexts(a, to, nil))
			}
		}
	}
}

// Of super-epochs far out there is no text (P30.1).
func TestLogsFarOut(t *testing.T) {
	for _, epoch := range []int{-1, -2, math.MinInt, 1 << 62, 1<<62 + 1, math.MaxInt - 1, math.MaxInt} {
		for _, to := range []int{math.MinInt, -1, 0, 1, epoch, epoch + 1, epoch + 2, math.MaxInt} {
			for count := range 4 {
				a := logged(0)
				a.Under.Signed.Epoch, a.Under.Sums = epoch, sums(count)
				expectTexts(t, fmt.Sprintf("%d to %d", epoch, to), extract.Log(a, to, sums(count)), nil)
			}
		}
	}
}

// Sums of which there are too few or too many aren't put together (P30.1).
func TestLogsOfOtherCounts(t *testing.T) {
	for epoch := range 9 {
		a := logged(epoch)
		for to := epoch + 2; to < 20; to++ {
			right := told(epoch+1, to, true)
			for count := range 9 {
				if count != right {
					expectTexts(t, fmt.Sprintf("%d to %d by %d", epoch, to, count), extract.Log(a, to, sums(count)), logTexts(a, 0, nil))
				}
			}
			for count := range 9 {
				if count != len(a.Under.Sums) {
					b := a
					b.Under.Sums = sums(count)
					entry := []string{"\x00" + string(super.Text(epoch, a.Under.Signed.Root))}
					expectTexts(t, fmt.Sprintf("%d by %d", epoch, count), extract.Log(b, 0, nil), entry)
					all := logTexts(a, to, sums(right))
					expectTexts(t, fmt.Sprintf("%d by %d, to %d", epoch, count, to), extract.Log(b, to, sums(right)), append(entry, all[len(a.Under.Sums)+1:]...))
				}
			}
		}
	}
}

// What is summed up is what comes out: all of a look's and a log's sums are those of some of its texts (P30.1).
func TestTextsComeOut(t *testing.T) {
	h := hosted(t)
	for range 6 {
		h.Tick()
	}
	for at := range 5 {
		a := serve(t, h, wire.Request{Kind: wire.Lookup, Id: []byte("a"), Label: []byte("l"), From: at})
		texts := map[[32]byte]bool{}
		for _, text := range append(extract.Look([]byte("a"), a), extract.Log(a, 0, nil)...) {
			texts[sumOf(string(text))] = true
		}
		stand := serve(t, h, wire.Request{Kind: wire.Standing, Id: []byte("a")})
		comes := [][32]byte{a.Found.Link, stand.Member.Link, super.Value(stand.Member), a.Under.Signed.Root, a.Under.Log}
		if at > 0 {
			comes = append(comes, a.Found.Root)
		}
		if a.Found.Present {
			comes = append(comes, a.Found.Bound)
		}
		for i, sum := range comes {
			if !texts[sum] {
				t.Errorf("at %d: sum %d isn't one of a text", at, i)
			}
		}
	}
}
