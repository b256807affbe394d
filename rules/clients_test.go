package rules_test

import (
	"fmt"
	"math"
	"slices"
	"testing"

	"custumal/api"
	"custumal/direct"
	"custumal/extract"
	"custumal/fan"
	"custumal/host"
	"custumal/monitor"
	"custumal/sign"
	"custumal/super"
	"custumal/verify"
	"custumal/wire"
)

// answersOf: what a host answers of one tenant, and of a label.
func answersOf(seed [32]byte, id, label []byte) (all []wire.Answer) {
	h, _ := host.New(seed, 2, 0)
	h.Serve(wire.Request{Kind: wire.Create, Id: id, Limits: direct.Limits{Labels: 2, Pending: 2, Epochs: 9}, Period: 1})
	for range 3 {
		h.Serve(wire.Request{Kind: wire.Put, Id: id, Label: label, Value: label})
		h.Tick()
		for kind := wire.Lookup; kind <= wire.Growth; kind++ {
			all = append(all, h.Serve(wire.Request{Kind: kind, Id: id, Label: label, From: 1, To: 2}))
		}
	}
	return all
}

// oddAnswers: of these, and others of numbers far out, of long lists, and of none.
func oddAnswers(l []wire.Answer) []wire.Answer {
	numbers := []int{math.MinInt, -1, 0, 1, 1<<62 - 1, 1 << 62, 1<<62 + 1, math.MaxInt - 1, math.MaxInt}
	for _, n := range numbers {
		for _, count := range []int{0, 1, 62, 63, 257} {
			sums := make([][32]byte, count)
			for _, kind := range []int{wire.Lookup, wire.Standing, wire.Growth, wire.Audit, n} {
				a := wire.Answer{Kind: kind, Later: sums, Sums: sums, Marks: make([]direct.Mark, count), Member: super.Member{Epoch: n}}
				a.Found.Epoch, a.Found.Version, a.Found.Present, a.Found.Proof.Sums, a.Found.Proof.There = n, n, true, sums, n > 0
				a.Under.Signed.Epoch, a.Under.Proof.Sums, a.Under.Sums, a.Under.Proof.There = n, sums, sums, n > 0
				a.Under.Signed.Sig = sign.Sign([32]byte{4}, super.Text(n, [32]byte{}))
				l = append(l, a)
			}
		}
	}
	return append(l, wire.Answer{}, wire.Answer{Kind: wire.Lookup, Err: -1})
}

// Each call of layers 28 to 31 ends without a panic at nil objects, zero values, answers of all kinds, and numbers far out (P1).
func TestNoCallOfClientsPanics(t *testing.T) {
	seed := [32]byte{4}
	id, label := []byte("a"), []byte("l")
	honest := answersOf(seed, id, label)
	public := sign.Spread(seed).Public
	numbers := []int{math.MinInt, -1, 0, 1, 2, 3, 16, 17, 1 << 62, math.MaxInt}
	var jobs []fan.Job
	stand := honest[len(honest)-1-(wire.Growth-wire.Standing)]
	for i, a := range oddAnswers(honest) {
		long := make([]byte, 300)
		if i < len(honest) {
			long = make([]byte, 70000)
		}
		for _, text := range [][]byte{id, nil, long} {
			verify.Look(public, text, label, a)
			verify.Look([32]byte{2}, id, text, a)
			verify.Stand(public, text, a)
			verify.Stand([32]byte{}, text, a)
			extract.Look(text, a)
			extract.Stand(text, a)
		}
		begun := monitor.New(public, id)
		begun.Watch(honest[wire.Standing-wire.Lookup], a, a)
		for _, m := range []*monitor.Monitor{nil, {}, monitor.New([32]byte{}, nil), begun} {
			m.Watch(a, a, a)
			m.Watch(stand, a, a)
			m.Watch(stand, honest[len(honest)-1], a)
			m.Last()
			m.Asks(numbers[i%len(numbers)], i)
		}
		for _, n := range numbers {
			verify.Grow(n, i, a.Under.Log, a)
			verify.Grow(i, n, a.Under.Log, a)
			extract.Log(a, n, a.Sums)
		}
		b, _ := wire.Tell(a)
		jobs = append(jobs, fan.Job{Id: id, Label: label, Answer: b}, fan.Job{Answer: b}, fan.Job{Answer: b[:len(b)/2]})
	}
	extract.Find(nil, nil)
	extract.Find([][]byte{nil, {}, {1}}, [][]byte{nil, {}, {1}})
	for _, n := range []int{math.MinInt, -1, 0, 1, 16, 17, math.MaxInt} {
		fan.Check(public, jobs[:60], n)
		fan.First(public, jobs[len(jobs)-60:], n)
		fan.Check(public, nil, n)
	}
	fan.Check(public, jobs, 16)
	fan.Check(public, make([]fan.Job, 1001), 1)
}

// tellOfClients: what comes of what a host of these sums answers.
func tellOfClients(sums ...[32]byte) (all [][]byte) {
	id, label := sums[0][:api.MaxId], sums[1][:]
	public := sign.Spread(sums[0]).Public
	honest := answersOf(sums[0], id, label)
	m := monitor.New(public, id)
	var jobs []fan.Job
	for round := range slices.Chunk(honest, wire.Growth-wire.Lookup+1) {
		look, stand := round[0], round[wire.Standing-wire.Lookup]
		growth, audit := m.Asks(stand.Under.Signed.Epoch+1, stand.Member.Epoch)
		seen, err := verify.Look(public, id, label, look)
		all = append(all, fmt.Append(nil, growth, audit, m.Watch(stand, round[len(round)-1], round[wire.Audit-wire.Lookup]), seen, err))
		all = append(all, extract.Look(id, look)...)
		all = append(all, extract.Stand(id, stand)...)
		all = append(all, extract.Log(stand, 9, nil)...)
		b, _ := wire.Tell(look)
		jobs = append(jobs, fan.Job{Id: id, Label: label, Answer: b}, fan.Job{Id: label, Answer: b})
	}
	last, _ := m.Last()
	verdicts, _ := fan.Check(public, jobs, 4)
	first, _ := fan.First(public, jobs, 3)
	return append(all, fmt.Append(nil, last, verdicts, first))
}
