package verify_test

import (
	"math"
	"slices"
	"strings"
	"testing"

	"custumal/api"
	"custumal/direct"
	"custumal/path"
	"custumal/proof"
	"custumal/super"
	"custumal/tree"
	"custumal/verify"
	"custumal/vrf"
	"custumal/wire"
)

// indexOf: a label's.
func indexOf(label string) [32]byte {
	p, _ := vrf.Prove(vrfSeed, []byte(label))
	sum, _ := vrf.Sum(p)
	return vrf.Index(sum)
}

// usual: a label that has a value, among others, two epochs ahead of the last one.
func usual() tale {
	return tale{
		id: []byte("tenant"), label: []byte("label"), epoch: 3, ahead: sumOf("ahead"), leaves: labels(6, indexOf("label")),
		present: true, version: 2, value: []byte("value"), later: sums(2), top: 6, others: some(5),
	}
}

// absent: as usual, but without a value.
func absent() tale {
	s := usual()
	s.present, s.version, s.value = false, 0, nil
	return s
}

// first: a look at epoch 0.
func first() tale {
	s := absent()
	s.epoch, s.leaves = 0, nil
	return s
}

// A call is what Look, or Stand, is given.
type call struct {
	public    [32]byte
	id, label []byte
	a         wire.Answer
}

func (c call) look() (verify.Seen, api.Errno) { return verify.Look(c.public, c.id, c.label, c.a) }

func (c call) stand() (verify.Seen, api.Errno) { return verify.Stand(c.public, c.id, c.a) }

func (c call) with(change func(c *call)) call {
	c.a = copyOf(c.a)
	change(&c)
	return c
}

func (s tale) call(t *testing.T) (call, verify.Seen) {
	a, seen := s.look(t)
	return call{publicOf(seed), s.id, s.label, a}, seen
}

func expectSeen(t *testing.T, why string, want verify.Seen, tell func() (verify.Seen, api.Errno)) {
	t.Helper()
	if got, err := tell(); err != api.OK || said(got) != said(want) {
		t.Errorf("%s: %v\n%s\nnot\n%s", why, err, said(got), said(want))
	}
}

func expectRefused(t *testing.T, why string, want api.Errno, tell func() (verify.Seen, api.Errno)) {
	t.Helper()
	if got, err := tell(); err != want || said(got) != said(verify.Seen{}) {
		t.Errorf("%s: %v, not %v: %s", why, err, want, said(got))
	}
}

// Looks of all kinds of numbers are taken, and show what they say (P28.1).
func TestLooks(t *testing.T) {
	for why, change := range map[string]func(s *tale){
		"usual":                      func(*tale) {},
		"the only label":             func(s *tale) { s.leaves = nil },
		"the only tenant":            func(s *tale) { s.others = nil },
		"the last epoch":             func(s *tale) { s.later = nil },
		"many epochs behind":         func(s *tale) { s.later = sums(300) },
		"epoch 1":                    func(s *tale) { s.epoch, s.ahead = 1, sumOf("\x04tenant") },
		"epoch 2^62":                 func(s *tale) { s.epoch = 1 << 62 },
		"epoch 2^62, and the last":   func(s *tale) { s.epoch, s.later = 1<<62, nil },
		"an empty value":             func(s *tale) { s.value = nil },
		"a long value":               func(s *tale) { s.value = []byte(strings.Repeat("v", 70000)) },
		"a label without a byte":     func(s *tale) { s.label = nil },
		"a long label":               func(s *tale) { s.label = []byte(strings.Repeat("l", 70000)) },
		"an id without a byte":       func(s *tale) { s.id = nil },
		"a long id":                  func(s *tale) { s.id = []byte(strings.Repeat("i", 70000)) },
		"version 0":                  func(s *tale) { s.version = 0 },
		"a version below 0":          func(s *tale) { s.version = math.MinInt },
		"the first super-epoch":      func(s *tale) { s.top = 0 },
		"super-epoch 1":              func(s *tale) { s.top = 1 },
		"super-epoch 255":            func(s *tale) { s.top = 255 },
		"super-epoch 256":            func(s *tale) { s.top = 256 },
		"super-epoch 2^62":           func(s *tale) { s.top = 1 << 62 },
		"super-epoch 2^63 - 2":       func(s *tale) { s.top = math.MaxInt - 1 },
		"absent":                     func(s *tale) { *s = absent() },
		"absent, at another leaf":    func(s *tale) { *s = absent(); s.leaves = labels(1, indexOf("label")) },
		"absent, of no label at all": func(s *tale) { *s = absent(); s.leaves = nil },
		"epoch 0":                    func(s *tale) { *s = first() },
		"epoch 0, and the last":      func(s *tale) { *s = first(); s.later = nil },
	} {
		s := usual()
		change(&s)
		c, seen := s.call(t)
		expectSeen(t, why, seen, c.look)
	}
}

// What the chapter doesn't ask for isn't looked at, and isn't shown (P28.1).
func TestWhatIsNotLookedAt(t *testing.T) {
	anything := func(c *call) {
		c.a.Found.Reads, c.a.Epoch, c.a.Log, c.a.Bundle = -7, -7, sumOf("log"), []byte("bundle")
		c.a.Member = super.Member{Id: []byte("another"), Gone: true, Epoch: 9}
		c.a.Entries, c.a.Marks, c.a.Sums = make([]direct.Entry, 2), make([]direct.Mark, 2), sums(3)
	}
	for why, s := range map[string]tale{"usual": usual(), "absent": absent(), "epoch 0": first()} {
		c, seen := s.call(t)
		expectSeen(t, why, seen, c.with(anything).look)
	}
	c, seen := absent().call(t)
	expectSeen(t, "absent, with a value beside", seen, c.with(func(c *call) {
		c.a.Found.Version, c.a.Found.Value, c.a.Found.Bound, c.a.Found.Open = 7, []byte("value"), sumOf("bound"), open
	}).look)
	c, seen = first().call(t)
	expectSeen(t, "epoch 0, with a link ahead", seen, c.with(func(c *call) { c.a.Found.Ahead = sumOf("ahead") }).look)
	for why, m := range members() {
		a, seen := standing(m, some(4), 9)
		c := call{public: publicOf(seed), id: m.Id, a: a}
		expectSeen(t, why, seen, c.with(func(c *call) {
			c.a.Found.Epoch, c.a.Found.Value, c.a.Public, c.a.Later, c.a.Epoch = -1, []byte("value"), sumOf("public"), sums(2), 3
		}).stand)
	}
}

// members: of all kinds.
func members() map[string]super.Member {
	link := sumOf("link")
	return map[string]super.Member{
		"usual":                {Id: []byte("tenant"), Epoch: 3, Link: link},
		"epoch 0":              {Id: []byte("tenant"), Link: link},
		"an epoch below 0":     {Id: []byte("tenant"), Epoch: math.MinInt, Link: link},
		"the last epoch":       {Id: []byte("tenant"), Epoch: math.MaxInt, Link: link},
		"gone":                 {Id: []byte("tenant"), Gone: true},
		"gone, with an epoch":  {Id: []byte("tenant"), Gone: true, Epoch: 5, Link: link},
		"without a name":       {Epoch: 1, Link: link},
		"an id of many bytes":  {Id: []byte(strings.Repeat("i", 70000)), Epoch: 1, Link: link},
		"epoch 0 and no link":  {Id: []byte("tenant")},
		"of the name of a sum": {Id: link[:], Epoch: 1, Link: link},
	}
}

// Members of all kinds are taken, and show what they say: one that is gone has no epoch and no link (P28.1).
func TestStandings(t *testing.T) {
	for why, m := range members() {
		for _, others := range []int{0, 1, 7} {
			for _, top := range []int{0, 1, 5, 1 << 62, math.MaxInt - 1} {
				a, seen := standing(m, some(others), top)
				expectSeen(t, why, seen, call{public: publicOf(seed), id: m.Id, a: a}.stand)
			}
		}
	}
}

// A fault is what makes an answer be refused, at a step of the chapter's order; the steps ahead of it find nothing.
type fault struct {
	why  string
	step int
	err  api.Errno
	make func(c *call)
}

// The steps, in the chapter's order.
const (
	form = iota
	chained
	sealed
	logged
	member
	proved
	indexed
	shown
	opened
)

func turn(sum *[32]byte) { sum[9] ^= 4 }

// noPoint: bytes that are no point; small: of a point that eight times is the neutral one.
var noPoint, small = [32]byte{2}, [32]byte{1}

// resigned: under another number, or root; by the host itself.
func resigned(change func(s *super.Signed)) func(c *call) {
	return func(c *call) {
		s := c.a.Under.Signed
		change(&s)
		c.a.Under.Signed = signed(seed, s.Epoch, s.Root)
	}
}

func formFaults(kind int) (l []fault) {
	for _, other := range []int{0, -1, kind - 1, kind + 1, kind + 256, wire.Put, math.MaxInt, math.MinInt} {
		l = append(l, fault{"kind", form, api.ErrForm, func(c *call) { c.a.Kind = other }})
	}
	for _, err := range []api.Errno{-1, api.ErrArg, api.ErrMiss, api.ErrFalse, 256} {
		l = append(l, fault{"error", form, api.ErrForm, func(c *call) { c.a.Err = err }})
	}
	return l
}

func underFaults() []fault {
	return []fault{
		{"signature, first half", sealed, api.ErrSig, func(c *call) { c.a.Under.Signed.Sig[5] ^= 1 }},
		{"signature, last half", sealed, api.ErrSig, func(c *call) { c.a.Under.Signed.Sig[40] ^= 1 }},
		{"signature's number too great", sealed, api.ErrSig, func(c *call) { c.a.Under.Signed.Sig[63] = 0xff }},
		{"signed number", sealed, api.ErrSig, func(c *call) { c.a.Under.Signed.Epoch++ }},
		{"signed root", sealed, api.ErrSig, func(c *call) { turn(&c.a.Under.Signed.Root) }},
		{"another host", sealed, api.ErrSig, func(c *call) { c.public = publicOf(sumOf("another")) }},
		{"no signature", sealed, api.ErrSig, func(c *call) { c.a.Under.Signed.Sig = [64]byte{} }},
		{"no point", sealed, api.ErrPoint, func(c *call) { c.public = noPoint }},
		{"log", logged, api.ErrProof, func(c *call) { turn(&c.a.Under.Log) }},
		{"sums of the log", logged, api.ErrProof, func(c *call) { turn(&c.a.Under.Sums[1]) }},
		{"sums of the log in another order", logged, api.ErrProof, func(c *call) { slices.Reverse(c.a.Under.Sums) }},
		{"a sum of the log less", logged, api.ErrProof, func(c *call) { c.a.Under.Sums = c.a.Under.Sums[1:] }},
		{"a sum of the log more", logged, api.ErrProof, func(c *call) { c.a.Under.Sums = append(c.a.Under.Sums, sumOf("more")) }},
		{"no sums of the log", logged, api.ErrProof, func(c *call) { c.a.Under.Sums = nil }},
		{"no sums, and the entry's as the log's", logged, api.ErrProof, func(c *call) {
			s := c.a.Under.Signed
			c.a.Under.Sums, c.a.Under.Log = nil, sumOf("\x00", rootText(s.Epoch, s.Root))
		}},
		{"another place in the log", logged, api.ErrProof, resigned(func(s *super.Signed) { s.Epoch++ })},
		{"another root in the log", logged, api.ErrProof, resigned(func(s *super.Signed) { turn(&s.Root) })},
		{"number -1", logged, api.ErrProof, resigned(func(s *super.Signed) { s.Epoch = -1 })},
		{"the least number", logged, api.ErrProof, resigned(func(s *super.Signed) { s.Epoch = math.MinInt })},
		{"number 2^63 - 1", logged, api.ErrProof, resigned(func(s *super.Signed) { s.Epoch = math.MaxInt })},
		{"a tenant's proof, by its sums", member, api.ErrProof, func(c *call) { turn(&c.a.Under.Proof.Sums[0]) }},
		{"a tenant's proof, with one less", member, api.ErrProof, func(c *call) { c.a.Under.Proof.Sums = c.a.Under.Proof.Sums[1:] }},
		{"a tenant's proof, of too many", member, api.ErrProof, func(c *call) { c.a.Under.Proof.Sums = sums(257) }},
		{"a tenant's value", member, api.ErrProof, func(c *call) { turn(&c.a.Under.Proof.End.Value) }},
		{"a tenant's key", member, api.ErrProof, func(c *call) { c.a.Under.Proof.End.Key = c.a.Under.Proof.End.Key.Flip(255) }},
		{"no tenant's leaf", member, api.ErrProof, func(c *call) { c.a.Under.Proof.There = false }},
		{"no tenant's proof", member, api.ErrProof, func(c *call) { c.a.Under.Proof = proof.Proof{} }},
		{"a tenant that isn't there", member, api.ErrProof, func(c *call) { c.a.Under = without(c.id, c.a.Under) }},
		{"another tenant's way", member, api.ErrProof, func(c *call) { c.a.Under = of(c.id, "other 1", c.a.Under) }},
	}
}

// without: that one isn't there is shown.
func without(id []byte, u wire.Under) wire.Under {
	all := tree.Of([]tree.Leaf{{Key: path.Key(sumOf("\x05", string(id))).Flip(200), Value: u.Proof.End.Value}})
	return under(all, sumOf("\x05", string(id)), u.Signed.Epoch)
}

// of: the right value is another one's.
func of(id []byte, other string, u wire.Under) wire.Under {
	all := tree.Of([]tree.Leaf{{Key: sumOf("\x05", string(id)), Value: sumOf("another")}, {Key: sumOf("\x05", other), Value: u.Proof.End.Value}})
	return under(all, sumOf("\x05", other), u.Signed.Epoch)
}

// under: all is right of that tree's root; the way is that of k.
func under(all *tree.Tree, k path.Key, top int) (u wire.Under) {
	u.Signed = signed(seed, top, all.Root())
	u.Sums, u.Log = lastWay(rootText(top, all.Root()), top+1)
	u.Proof = proof.Prove(all, k)
	return u
}

func lookFaults() []fault {
	l := append(formFaults(wire.Lookup), underFaults()...)
	for _, epoch := range []int{-1, math.MinInt, 1<<62 + 1, math.MaxInt} {
		l = append(l, fault{"far out", form, api.ErrForm, func(c *call) { c.a.Found.Epoch = epoch }})
	}
	return append(l, []fault{
		{"link", chained, api.ErrProof, func(c *call) { turn(&c.a.Found.Link) }},
		{"another id", chained, api.ErrProof, func(c *call) { c.id = []byte("tenans") }},
		{"one behind", member, api.ErrProof, func(c *call) { turn(&c.a.Later[0]) }},
		{"the last one behind", member, api.ErrProof, func(c *call) { turn(&c.a.Later[1]) }},
		{"one behind less", member, api.ErrProof, func(c *call) { c.a.Later = c.a.Later[:1] }},
		{"the first one behind less", member, api.ErrProof, func(c *call) { c.a.Later = c.a.Later[1:] }},
		{"one behind more", member, api.ErrProof, func(c *call) { c.a.Later = append(c.a.Later, sumOf("more")) }},
		{"those behind in another order", member, api.ErrProof, func(c *call) { slices.Reverse(c.a.Later) }},
		{"public bytes that are no point", proved, api.ErrPoint, func(c *call) { c.a.Public = noPoint }},
		{"public bytes of a small point", proved, api.ErrPoint, func(c *call) { c.a.Public = small }},
		{"another one's public bytes", proved, api.ErrProof, func(c *call) { c.a.Public = publicOf(seed) }},
		{"another label", proved, api.ErrProof, func(c *call) { c.label = []byte("labels") }},
		{"an index's proof without a point", proved, api.ErrProof, func(c *call) { copy(c.a.Found.Vrf[:32], noPoint[:]) }},
		{"an index's proof, in the middle", proved, api.ErrProof, func(c *call) { c.a.Found.Vrf[40] ^= 1 }},
		{"an index's proof, its number", proved, api.ErrProof, func(c *call) { c.a.Found.Vrf[79] = 0xff }},
		{"index", indexed, api.ErrProof, func(c *call) { turn(&c.a.Found.Index) }},
		{"index, its last bit", indexed, api.ErrProof, func(c *call) { c.a.Found.Index[31] ^= 1 }},
	}...)
}

// Only of a label that is among others there are these.
func labelFaults() []fault {
	return []fault{
		{"another epoch", chained, api.ErrProof, func(c *call) { c.a.Found.Epoch++ }},
		{"epoch 0 of another one", chained, api.ErrProof, func(c *call) { c.a.Found.Epoch = 0 }},
		{"root", chained, api.ErrProof, func(c *call) { turn(&c.a.Found.Root) }},
		{"the link ahead", chained, api.ErrProof, func(c *call) { turn(&c.a.Found.Ahead) }},
		{"a label's proof, by its sums", shown, api.ErrProof, func(c *call) { turn(&c.a.Found.Proof.Sums[2]) }},
		{"a label's proof, with one less", shown, api.ErrProof, func(c *call) { c.a.Found.Proof.Sums = c.a.Found.Proof.Sums[1:] }},
		{"a label's proof, of too many", shown, api.ErrProof, func(c *call) { c.a.Found.Proof.Sums = sums(257) }},
		{"no label's proof", shown, api.ErrProof, func(c *call) { c.a.Found.Proof = proof.Proof{} }},
	}
}

func usualFaults() []fault {
	l := append(lookFaults(), labelFaults()...)
	return append(l, []fault{
		{"said to be absent", opened, api.ErrProof, func(c *call) { c.a.Found.Present = false }},
		{"said to be absent, without all else", opened, api.ErrProof, func(c *call) {
			f := &c.a.Found
			f.Present, f.Version, f.Value, f.Bound, f.Open = false, 0, nil, [32]byte{}, [32]byte{}
		}},
		{"bound", opened, api.ErrProof, func(c *call) { turn(&c.a.Found.Bound) }},
		{"open", opened, api.ErrProof, func(c *call) { turn(&c.a.Found.Open) }},
		{"version", opened, api.ErrProof, func(c *call) { c.a.Found.Version++ }},
		{"value", opened, api.ErrProof, func(c *call) { c.a.Found.Value[0] ^= 1 }},
		{"value, longer", opened, api.ErrProof, func(c *call) { c.a.Found.Value = append(c.a.Found.Value, 0) }},
		{"value, none", opened, api.ErrProof, func(c *call) { c.a.Found.Value = nil }},
		{"another value, bound", opened, api.ErrProof, func(c *call) {
			f := &c.a.Found
			f.Version, f.Value = 3, []byte("another")
			f.Bound = boundOf(f.Index, f.Version, f.Value)
		}},
	}...)
}

func absentFaults() []fault {
	l := append(lookFaults(), labelFaults()...)
	return append(l, []fault{
		{"said to be present", opened, api.ErrProof, func(c *call) { c.a.Found.Present = true }},
		{"said to be present, and bound", opened, api.ErrProof, func(c *call) {
			f := &c.a.Found
			f.Present, f.Version, f.Value, f.Open = true, 1, []byte("value"), open
			f.Bound = boundOf(f.Index, f.Version, f.Value)
		}},
		{"said to be present, as nothing", opened, api.ErrProof, func(c *call) {
			f := &c.a.Found
			f.Present, f.Bound = true, [32]byte{}
		}},
	}...)
}

func firstFaults() []fault {
	full := tree.Of(labels(3, indexOf("label")))
	return append(lookFaults(), []fault{
		{"another epoch", chained, api.ErrProof, func(c *call) { c.a.Found.Epoch++ }},
		{"not the empty root", chained, api.ErrProof, func(c *call) { c.a.Found.Root = full.Root() }},
		{"labels at epoch 0", chained, api.ErrProof, func(c *call) {
			c.a.Found.Root, c.a.Found.Proof = full.Root(), proof.Prove(full, c.a.Found.Index)
		}},
		{"a link as of a later epoch", chained, api.ErrProof, func(c *call) {
			c.a.Found.Link = nextLink(c.id, 0, c.a.Found.Root, c.a.Found.Ahead)
		}},
		{"a label's proof", shown, api.ErrProof, func(c *call) { c.a.Found.Proof = proof.Prove(full, c.a.Found.Index) }},
		{"said to be present", opened, api.ErrProof, func(c *call) { c.a.Found.Present = true }},
	}...)
}

// eachPair: each fault by itself; and each two of unlike steps, of which the one that is found first counts.
func eachPair(t *testing.T, c call, faults []fault, tell func(c call) (verify.Seen, api.Errno)) {
	t.Helper()
	for _, one := range faults {
		expectRefused(t, one.why, one.err, func() (verify.Seen, api.Errno) { return tell(c.with(one.make)) })
		for _, other := range faults {
			if one.step < other.step {
				both := func(c *call) { other.make(c); one.make(c) }
				expectRefused(t, one.why+", and "+other.why, one.err, func() (verify.Seen, api.Errno) { return tell(c.with(both)) })
			}
		}
	}
}

// Each fault of a look is found, in the chapter's order; nothing is shown then (P28.1).
func TestFaultsOfLooks(t *testing.T) {
	t.Parallel()
	for why, of := range map[string]struct {
		tale   tale
		faults []fault
	}{
		"usual": {usual(), usualFaults()}, "absent": {absent(), absentFaults()}, "epoch 0": {first(), firstFaults()},
	} {
		t.Run(why, func(t *testing.T) {
			t.Parallel()
			c, _ := of.tale.call(t)
			eachPair(t, c, of.faults, call.look)
		})
	}
}

// A value that is there, of which a look says that there is none (P28.1).
func TestHiddenValue(t *testing.T) {
	s := absent()
	s.leaves = append(s.leaves, tree.Leaf{Key: indexOf("label"), Value: sumOf("bound")})
	c, _ := s.call(t)
	expectRefused(t, "hidden", api.ErrProof, c.look)
}

// Signatures are looked at as layer 8 does: the number ahead of the point (P28.1).
func TestOrderOfSignatures(t *testing.T) {
	c, _ := usual().call(t)
	both := func(c *call) { c.public, c.a.Under.Signed.Sig[63] = noPoint, 0xff }
	expectRefused(t, "no point, and no number", api.ErrSig, c.with(both).look)
}

// Each fault of a standing is found, in the chapter's order; nothing is shown then (P28.1).
func TestFaultsOfStandings(t *testing.T) {
	t.Parallel()
	for _, gone := range []bool{false, true} {
		m := super.Member{Id: []byte("tenant"), Gone: gone, Epoch: 3, Link: sumOf("link")}
		a, _ := standing(m, some(5), 6)
		c := call{public: publicOf(seed), id: m.Id, a: a}
		faults := append(formFaults(wire.Standing), underFaults()...)
		faults = append(faults, []fault{
			{"another id", chained, api.ErrFalse, func(c *call) { c.id = []byte("tenans") }},
			{"a longer id", chained, api.ErrFalse, func(c *call) { c.id = append(c.id[:len(c.id):len(c.id)], 0) }},
			{"no id", chained, api.ErrFalse, func(c *call) { c.id = nil }},
			{"another one", chained, api.ErrFalse, func(c *call) { c.a.Member.Id[5] ^= 1 }},
			{"nobody", chained, api.ErrFalse, func(c *call) { c.a.Member.Id = nil }},
			{"another id, and another one", member, api.ErrProof, func(c *call) { c.id = []byte("another"); c.a.Member.Id = []byte("another") }},
			{"gone", member, api.ErrProof, func(c *call) { c.a.Member.Gone = !gone }},
		}...)
		if !gone {
			faults = append(faults, []fault{
				{"epoch", member, api.ErrProof, func(c *call) { c.a.Member.Epoch++ }},
				{"link", member, api.ErrProof, func(c *call) { turn(&c.a.Member.Link) }},
			}...)
		}
		eachPair(t, c, faults, call.stand)
	}
}

// Example 1: an answer with an error shows nothing; none at all doesn't either.
func TestNothing(t *testing.T) {
	for _, a := range []wire.Answer{{}, {Kind: wire.Lookup, Err: api.ErrMiss}, {Kind: wire.Standing, Err: api.ErrMiss}, {Kind: wire.Growth, Err: api.ErrArg}} {
		c := call{a: a}
		expectRefused(t, "Look", api.ErrForm, c.look)
		expectRefused(t, "Stand", api.ErrForm, c.stand)
		if err := verify.Grow(0, 0, [32]byte{}, a); err != api.ErrForm {
			t.Errorf("Grow: %v", err)
		}
	}
}
