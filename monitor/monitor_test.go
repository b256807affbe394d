package monitor_test

import (
	"math"
	"slices"
	"testing"

	"custumal/api"
	"custumal/chain"
	"custumal/direct"
	"custumal/monitor"
	"custumal/super"
	"custumal/verify"
	"custumal/wire"
)

// A watch is three answers.
type watch struct{ stand, growth, audit wire.Answer }

// watch: what there is to be watched now, by one who saw what another teller (or this one, sooner) told last.
func (w *teller) watch(saw *teller) watch {
	w.t.Helper()
	a := watch{stand: w.stand(), growth: w.growth(len(saw.tops), len(w.tops))}
	if !w.under[0].Gone {
		a.audit = w.audit(saw.under[0].Epoch)
	}
	return a
}

func (a watch) by(m *monitor.Monitor) api.Errno { return m.Watch(a.stand, a.growth, a.audit) }

func (a watch) with(change func(a *watch)) watch {
	a = watch{copyOf(a.stand), copyOf(a.growth), copyOf(a.audit)}
	change(&a)
	return a
}

// began: a monitor that has seen how the tenant stands now.
func (w *teller) began() *monitor.Monitor {
	w.t.Helper()
	m := monitor.New(public(), w.id)
	if err := m.Watch(w.stand(), wire.Answer{}, wire.Answer{}); err != api.OK {
		w.t.Fatal(err)
	}
	w.expectLast("begun", m)
	return m
}

// expectLast: what was seen last is what this teller tells now.
func (w *teller) expectLast(why string, m *monitor.Monitor) {
	w.t.Helper()
	if s, ok := m.Last(); !ok || said(s) != said(w.seen()) {
		w.t.Errorf("%s: %t\n%s\nnot\n%s", why, ok, said(s), said(w.seen()))
	}
}

// three: of as many super-epochs, and epochs.
func three(t *testing.T) *teller {
	w := newTeller(t, 0)
	w.tick(false)
	w.next("one")
	w.next("two")
	return w
}

// later: the same, with epochs more, and as many super-epochs more.
func (w *teller) later(epochs, tops int) *teller {
	other := w.fork()
	for i := range epochs {
		other.seal("later " + string(rune('a'+i)))
	}
	for range tops {
		other.tick(false)
	}
	return other
}

// Who goes on as it began is seen, however many epochs and super-epochs come in between (P29.1).
func TestWatch(t *testing.T) {
	for epochs := range 6 {
		for tops := range 6 {
			if epochs > 0 && tops == 0 {
				continue
			}
			w := three(t)
			m := w.began()
			now := w.later(epochs, tops)
			for range 3 {
				if err := now.watch(w).by(m); err != api.OK {
					t.Errorf("%d epochs and %d super-epochs later: %v", epochs, tops, err)
				}
				now.expectLast("watched", m)
				w = now
			}
		}
	}
}

// The first time only how it stands counts (P29.1).
func TestFirstTime(t *testing.T) {
	w := three(t)
	for why, a := range map[string]watch{
		"nothing beside": {}, "errors beside": {growth: wire.Answer{Kind: wire.Growth, Err: api.ErrArg}, audit: wire.Answer{Kind: wire.Audit, Err: api.ErrGone}},
		"others beside": {growth: w.stand(), audit: w.growth(1, 2)}, "what is right": {growth: w.growth(0, 3), audit: w.audit(0)},
	} {
		a.stand = w.stand()
		m := monitor.New(public(), w.id)
		if s, ok := m.Last(); ok || said(s) != said(verify.Seen{}) {
			t.Errorf("%s: something was seen", why)
		}
		if err := a.by(m); err != api.OK {
			t.Errorf("%s: %v", why, err)
		}
		w.expectLast(why, m)
	}
}

// A fault is what makes a watch be refused, at a step of the chapter's order; the steps ahead of it find nothing.
type fault struct {
	why  string
	step int
	err  api.Errno
	make func(a *watch)
}

// The steps, in the chapter's order.
const (
	standing = iota
	denied
	asGrowth
	grown
	asAudit
	audited
)

func turn(sum *[32]byte) { sum[9] ^= 4 }

func standFaults() []fault {
	return []fault{
		{"no standing", standing, api.ErrForm, func(a *watch) { a.stand.Kind = wire.Lookup }},
		{"an error", standing, api.ErrForm, func(a *watch) { a.stand = wire.Answer{Kind: wire.Standing, Err: api.ErrMiss} }},
		{"another one", standing, api.ErrFalse, func(a *watch) { a.stand.Member.Id = []byte("other") }},
		{"no signature", standing, api.ErrSig, func(a *watch) { a.stand.Under.Signed.Sig[3] ^= 1 }},
		{"another log", standing, api.ErrProof, func(a *watch) { turn(&a.stand.Under.Log) }},
		{"another epoch", standing, api.ErrProof, func(a *watch) { a.stand.Member.Epoch++ }},
		{"another link", standing, api.ErrProof, func(a *watch) { turn(&a.stand.Member.Link) }},
		{"gone, it says", standing, api.ErrProof, func(a *watch) { a.stand.Member.Gone = true }},
	}
}

// told: how it stands is told by another one.
func told(why string, other *teller) fault {
	return fault{why, denied, api.ErrFalse, func(a *watch) { a.stand = other.stand() }}
}

// growthFaults: of a growth to what w tells now.
func growthFaults(w *teller) []fault {
	n := len(w.tops)
	other := w.fork()
	other.tops = other.tops[:n-1]
	other.tickAs(super.Member{Id: w.id, Epoch: 99})
	return []fault{
		{"no growth", asGrowth, api.ErrForm, func(a *watch) { a.growth.Kind = wire.Audit }},
		{"an error for a growth", asGrowth, api.ErrForm, func(a *watch) { a.growth.Err = api.ErrArg }},
		{"nothing for a growth", asGrowth, api.ErrForm, func(a *watch) { a.growth = wire.Answer{} }},
		{"a growth's root", grown, api.ErrProof, func(a *watch) { turn(&a.growth.Log) }},
		{"a growth's sum", grown, api.ErrProof, func(a *watch) { turn(&a.growth.Sums[0]) }},
		{"a growth's sum less", grown, api.ErrProof, func(a *watch) { a.growth.Sums = a.growth.Sums[1:] }},
		{"a growth's sum more", grown, api.ErrProof, func(a *watch) { a.growth.Sums = append(a.growth.Sums, a.growth.Log) }},
		{"a growth from elsewhere", grown, api.ErrProof, func(a *watch) { a.growth = w.growth(2, n) }},
		{"a growth from nothing", grown, api.ErrProof, func(a *watch) { a.growth = w.growth(0, n) }},
		{"a growth to elsewhere", grown, api.ErrProof, func(a *watch) { a.growth = w.growth(3, n-1) }},
		{"another one's growth", grown, api.ErrProof, func(a *watch) { a.growth = other.growth(3, n) }},
	}
}

// auditFaults: of an audit of the epochs from 2 to 5.
func auditFaults(w *teller) (l []fault) {
	add := func(why string, change func(a *watch)) {
		l = append(l, fault{why, audited, api.ErrProof, change})
	}
	for i := range 4 {
		add("a mark's link", func(a *watch) { turn(&a.audit.Marks[i].Link) })
		add("a mark's epoch", func(a *watch) { a.audit.Marks[i].Epoch++ })
		add("a mark's epoch below 0", func(a *watch) { a.audit.Marks[i].Epoch = -1 })
		add("a mark less", func(a *watch) { a.audit.Marks = slices.Delete(a.audit.Marks, i, i+1) })
		add("a mark twice", func(a *watch) { a.audit.Marks = slices.Insert(a.audit.Marks, i, a.audit.Marks[i]) })
		if i > 0 {
			add("a mark's root", func(a *watch) { turn(&a.audit.Marks[i].Root) })
			add("marks in another order", func(a *watch) { m := a.audit.Marks; m[i], m[i-1] = m[i-1], m[i] })
		}
	}
	return append(l, []fault{
		{"no audit", asAudit, api.ErrForm, func(a *watch) { a.audit.Kind = wire.Growth }},
		{"an error for an audit", asAudit, api.ErrForm, func(a *watch) { a.audit.Err = api.ErrGone }},
		{"nothing for an audit", asAudit, api.ErrForm, func(a *watch) { a.audit = wire.Answer{} }},
		{"no marks", audited, api.ErrProof, func(a *watch) { a.audit.Marks = nil }},
		{"the first mark alone", audited, api.ErrProof, func(a *watch) { a.audit.Marks = a.audit.Marks[:1] }},
		{"the last mark alone", audited, api.ErrProof, func(a *watch) { a.audit.Marks = a.audit.Marks[3:] }},
		{"marks from elsewhere", audited, api.ErrProof, func(a *watch) { a.audit = w.audit(1) }},
		{"a mark more", audited, api.ErrProof, func(a *watch) {
			link := w.last().Link
			a.audit.Marks = append(a.audit.Marks, direct.Mark{Epoch: 6, Link: chain.Next(w.id, 6, [32]byte{}, link)})
		}},
		{"another past", audited, api.ErrProof, func(a *watch) { a.audit = another(w).audit(2) }},
		{"another past, behind the right beginning", audited, api.ErrProof, func(a *watch) {
			first := a.audit.Marks[0]
			a.audit = another(w).audit(2)
			a.audit.Marks[0] = first
		}},
		{"another end, on the right past", audited, api.ErrProof, func(a *watch) {
			other := w.fork()
			other.marks = other.marks[:5]
			other.seal("another")
			a.audit = other.audit(2)
		}},
	}...)
}

// another: of a tenant whose epochs, from 1 on, are others.
func another(w *teller) *teller {
	other := w.fork()
	other.marks = other.marks[:1]
	for range 5 {
		other.seal("another")
	}
	return other
}

// denials: what else is told can't be, of one who saw this at super-epoch 2, and is told of super-epoch 5.
func denials(t *testing.T) []fault {
	sooner, root, behind := newTeller(t, 0), three(t), three(t)
	sooner.tick(false)
	sooner.next("one")
	early := newTeller(t, 0)
	early.tick(false)
	early.seal("one")
	early.next("two")
	root.tops, root.marks = root.tops[:2], root.marks[:2]
	root.next("another two")
	behind.marks = behind.marks[:2]
	for range 3 {
		behind.tick(false)
	}
	log := three(t)
	log.tops = log.tops[:1]
	log.tops = append(log.tops, super.Signed{Epoch: 1}, three(t).tops[2])
	return []fault{
		told("a super-epoch sooner", sooner), told("a super-epoch sooner, of the same epoch", early), told("another root of that super-epoch", root),
		told("another log of that super-epoch", log), told("an epoch sooner", behind),
	}
}

// refuse: each fault by itself, and each two of unlike steps, of which the one that is found first counts; nothing is seen then.
func refuse(t *testing.T, w, now *teller, faults []fault) {
	t.Helper()
	m := w.began()
	right := now.watch(w)
	expect := func(why string, want api.Errno, change func(a *watch)) {
		t.Helper()
		if err := right.with(change).by(m); err != want {
			t.Errorf("%s: %v, not %v", why, err, want)
		}
		w.expectLast(why, m)
	}
	for _, one := range faults {
		expect(one.why, one.err, one.make)
		for _, other := range faults {
			if one.step < other.step {
				expect(one.why+", and "+other.why, one.err, func(a *watch) { other.make(a); one.make(a) })
			}
		}
	}
	if err := right.by(m); err != api.OK {
		t.Errorf("what is right, behind all that wasn't: %v", err)
	}
	now.expectLast("right", m)
}

// Each fault is found, in the chapter's order; behind an error nothing is seen (P29.1).
func TestFaults(t *testing.T) {
	w := three(t)
	now := w.later(3, 3)
	faults := append(standFaults(), denials(t)...)
	faults = append(faults, growthFaults(now)...)
	faults = append(faults, auditFaults(now)...)
	refuse(t, w, now, faults)
}

// Of one that is gone no audit is asked; and who is gone stays so (P29.1).
func TestGone(t *testing.T) {
	w := three(t)
	gone := w.fork()
	gone.tick(true)
	gone.tick(true)
	faults := append(standFaults()[:4], denials(t)...)
	refuse(t, w, gone, append(faults, growthFaults(gone)...))
	longGone := gone.fork()
	longGone.tickAs(super.Member{Id: w.id, Gone: true, Epoch: -5})
	back := gone.fork()
	back.tick(false)
	faults = append(standFaults()[:4], told("back again", back))
	refuse(t, gone, longGone, append(faults, fault{"no growth", asGrowth, api.ErrForm, func(a *watch) { a.growth.Kind = wire.Audit }}))
	m := gone.began()
	if err := back.watch(gone).by(m); err != api.ErrFalse {
		t.Errorf("back again, with a growth and an audit: %v", err)
	}
	same := gone.fork()
	same.tops = same.tops[:4]
	same.tick(false)
	if err := same.watch(gone).by(m); err != api.ErrFalse {
		t.Errorf("back at the same super-epoch: %v", err)
	}
}

// A growth must lead to the log of how it stands, though it goes on from what was seen (P29.1).
func TestGrowthElsewhere(t *testing.T) {
	w := three(t)
	now, other := w.later(1, 2), w.later(2, 2)
	a := now.watch(w)
	a.growth = other.growth(3, 5)
	m := w.began()
	if err := a.by(m); err != api.ErrProof {
		t.Errorf("another one's growth: %v", err)
	}
	a.audit = wire.Answer{}
	if err := a.by(m); err != api.ErrProof {
		t.Errorf("another one's growth, and no audit: %v", err)
	}
	w.expectLast("refused", m)
}

// At one super-epoch the same is seen again; its growth has no sums (P29.1).
func TestSameSuperEpoch(t *testing.T) {
	w := three(t)
	m := w.began()
	for range 3 {
		if err := w.watch(w).by(m); err != api.OK {
			t.Errorf("again: %v", err)
		}
		w.expectLast("again", m)
	}
	a := w.watch(w)
	a.growth.Sums = [][32]byte{{}}
	if err := a.by(m); err != api.ErrProof {
		t.Errorf("a sum more: %v", err)
	}
}

// Epochs far out are watched as others are, and none is counted that isn't told (P29.1).
func TestEpochsFarOut(t *testing.T) {
	for _, first := range []int{math.MinInt, -2, -1, 1 << 62, math.MaxInt - 2} {
		w := newTeller(t, first)
		w.tick(false)
		m := w.began()
		now := w.later(2, 1)
		if err := now.watch(w).by(m); err != api.OK {
			t.Errorf("from %d on: %v", first, err)
		}
		now.expectLast("far out", m)
		if err := now.watch(now).by(m); err != api.OK {
			t.Errorf("from %d on, again: %v", first, err)
		}
	}
	for _, ends := range [][2]int{{math.MinInt, math.MaxInt}, {-1, math.MaxInt}, {math.MinInt, 0}, {math.MinInt, -1}, {0, math.MaxInt}} {
		w := newTeller(t, ends[0])
		w.tick(false)
		m := w.began()
		now := w.fork()
		now.tickAs(super.Member{Id: w.id, Epoch: ends[1], Link: w.last().Link})
		for _, marks := range [][]direct.Mark{nil, w.marks, {{Epoch: ends[0], Link: w.last().Link}, {Epoch: ends[1], Link: w.last().Link}}} {
			a := watch{now.stand(), now.growth(1, 2), wire.Answer{Kind: wire.Audit, Marks: marks}}
			if err := a.by(m); err != api.ErrProof {
				t.Errorf("from %d to %d by %d marks: %v", ends[0], ends[1], len(marks), err)
			}
		}
	}
}

// What is to be asked follows what was seen (P29.1).
func TestAsks(t *testing.T) {
	expect := func(m *monitor.Monitor, from, since int) {
		t.Helper()
		for _, n := range []int{math.MinInt, -1, 0, 3, math.MaxInt} {
			growth, audit := m.Asks(n, n+1)
			if said(growth) != said(wire.Request{Kind: wire.Growth, From: from, To: n}) {
				t.Errorf("growth: %s", said(growth))
			}
			if said(audit) != said(wire.Request{Kind: wire.Audit, Id: []byte("tenant"), From: since, To: n + 1}) {
				t.Errorf("audit: %s", said(audit))
			}
		}
	}
	w := three(t)
	expect(monitor.New(public(), w.id), 0, 0)
	m := w.began()
	expect(m, 3, 2)
	now := w.later(3, 2)
	now.watch(w).by(m)
	expect(m, 5, 5)
	m.Watch(wire.Answer{}, wire.Answer{}, wire.Answer{})
	expect(m, 5, 5)
	gone := now.fork()
	gone.tick(true)
	gone.watch(now).by(m)
	expect(m, 6, 0)
	first := newTeller(t, -4)
	first.tick(false)
	expect(first.began(), 1, -4)
}

// A nil monitor, and one that New didn't make (P29.1).
func TestNoMonitor(t *testing.T) {
	var none *monitor.Monitor
	w := three(t)
	if err := none.Watch(w.stand(), wire.Answer{}, wire.Answer{}); err != api.ErrArg {
		t.Errorf("Watch: %v", err)
	}
	if s, ok := none.Last(); ok || said(s) != said(verify.Seen{}) {
		t.Errorf("Last: %t, %s", ok, said(s))
	}
	if growth, audit := none.Asks(3, 2); said(growth, audit) != said(wire.Request{}, wire.Request{}) {
		t.Errorf("Asks: %s", said(growth, audit))
	}
	zero := &monitor.Monitor{}
	if err := zero.Watch(w.stand(), wire.Answer{}, wire.Answer{}); err != api.ErrFalse {
		t.Errorf("of nobody: %v", err)
	}
	if _, ok := zero.Last(); ok {
		t.Error("of nobody: something was seen")
	}
}

// Example 1: Watch of an answer with an error.
func TestError(t *testing.T) {
	w := three(t)
	for _, m := range []*monitor.Monitor{monitor.New(public(), w.id), w.began()} {
		if err := m.Watch(wire.Answer{Kind: wire.Standing, Err: api.ErrMiss}, w.growth(3, 3), w.audit(2)); err != api.ErrForm {
			t.Error(err)
		}
	}
}
