package direct_test

import (
	"encoding/hex"
	"math"
	"math/rand"
	"strconv"
	"strings"
	"testing"

	"custumal/api"
	"custumal/chain"
	"custumal/commit"
	"custumal/direct"
	"custumal/proof"
	"custumal/tree"
	"custumal/vrf"
)

var most = direct.Limits{Labels: 64, Pending: 16, Epochs: 32}

// keys: bytes that rise, from one on.
func keys(from byte) (k direct.Keys) {
	for i := range k.Vrf {
		k.Vrf[i], k.Bind[i] = from+byte(i), from+100+byte(i)
	}
	return k
}

// The chapter's example (P19.1).
func TestExample(t *testing.T) {
	d, _ := open(t, "a", keys(1), most)
	if err := d.Put([]byte("a"), []byte("x")); err != api.OK {
		t.Fatal(err)
	}
	if f, err := d.Lookup([]byte("a"), -1); err != api.OK || f.Present || f.Epoch != 0 {
		t.Errorf("ahead of Seal: %+v, %v", f, err)
	}
	if n, err := d.Seal(); n != 1 || err != api.OK {
		t.Errorf("Seal: %d, %v", n, err)
	}
	if f, err := d.Lookup([]byte("a"), -1); err != api.OK || !f.Present || f.Version != 1 || f.Epoch != 1 || string(f.Value) != "x" {
		t.Errorf("behind Seal: %+v, %v", f, err)
	}
	if f, err := d.Lookup([]byte("a"), 0); err != api.OK || f.Present || f.Epoch != 0 {
		t.Errorf("of epoch 0: %+v, %v", f, err)
	}
}

// known: a directory of three epochs, the second one without a put.
func known(t *testing.T) (*direct.Directory, *book) {
	d, b := open(t, "tenant", keys(1), most)
	for _, puts := range [][]string{{"a", "one", "b", "two", "a", "three"}, nil, {"c", "", "b", "four"}} {
		for i := 0; i < len(puts); i += 2 {
			put(t, d, b, puts[i], puts[i+1])
		}
		seal(t, d, b)
	}
	return d, b
}

// Sums that were worked out by another program (P19.1).
func TestKnownSums(t *testing.T) {
	d, _ := known(t)
	expect := func(got []byte, want string) {
		t.Helper()
		if hex.EncodeToString(got) != want {
			t.Errorf("%x, not %s", got, want)
		}
	}
	public := d.Public()
	expect(public[:], "79b5562e8fe654f94078b112e8a98ba7901f853ae695bed7e0e3910bad049664")
	marks, err := d.Audit(0, 3)
	if err != api.OK || len(marks) != 4 {
		t.Fatalf("%d marks, %v", len(marks), err)
	}
	for i, want := range [][2]string{
		{"dbc1b4c900ffe48d575b5da5c638040125f65db0fe3e24494b76ea986457d986", "260520145a4eae789ac971f8d8feef2b4717ceae388335be5ab9ab3efe4a3e18"},
		{"5a59e20b4ae0333ec7f751c7aa0cd9479cd756f4ae326728e7fb1dbff708bb18", "98304da2ea16facc649658617dc20be888f89b0a9bbfc7920d4333cdd807c982"},
		{"5a59e20b4ae0333ec7f751c7aa0cd9479cd756f4ae326728e7fb1dbff708bb18", "1d4141a503f707968dcd4f1fcfb97ba03ef62ee788732ae223e16935c8d8b1ee"},
		{"9488c7c0b35a9c855d641960c073ae19315cb7a4296b4d28e6e0d6784fb86e7d", "c5e50ce4c365452f43b2be69791119c4b92f134c24c3f46c8e0da42c75275c83"},
	} {
		expect(marks[i].Root[:], want[0])
		expect(marks[i].Link[:], want[1])
	}
	f, err := d.Lookup([]byte("a"), 2)
	if err != api.OK || !f.Present || f.Version != 2 || string(f.Value) != "three" {
		t.Errorf("%+v, %v", f, err)
	}
	expect(f.Vrf[:], "d33d178d56832b77227ca7be09a658dc3e3377eefd754baa01a2a185187a3a041988d3b7cf613bdc212fb0c0bf91d1f2bd4069e03a0c17d7749d780384d03a32da9ea7bed628aa34aad8398a771ad108")
	expect(f.Index[:], "3565ac41cbe602347f808fc83903e18192abf5d54693aa1bb5da083f454de56a")
	expect(f.Bound[:], "4a940a6888d9afd94ece8577df87c945dc14336315fdfc421ab5c0d0363f5349")
	expect(f.Open[:], "685e7bce11bb3750f35ba0ef3b999cdb3c11f24f4db4ffe67c6b9877fedebbcb")
	expect(f.Root[:], "5a59e20b4ae0333ec7f751c7aa0cd9479cd756f4ae326728e7fb1dbff708bb18")
	expect(f.Link[:], "1d4141a503f707968dcd4f1fcfb97ba03ef62ee788732ae223e16935c8d8b1ee")
	expect(f.Ahead[:], "98304da2ea16facc649658617dc20be888f89b0a9bbfc7920d4333cdd807c982")
}

// An id has 1 to 16 bytes, each limit its own most; else there is no directory (P19.1).
func TestNew(t *testing.T) {
	expectMade := func(id string, l direct.Limits, want api.Errno) {
		t.Helper()
		if d, err := direct.New([]byte(id), keys(1), l); err != want || (d != nil) != (want == api.OK) {
			t.Errorf("New(%d bytes, %v): %v", len(id), l, err)
		}
	}
	for _, size := range []int{0, 1, 2, 15, 16, 17, 32, 65536, 65552} {
		want := api.OK
		if size < 1 || size > 16 {
			want = api.ErrArg
		}
		expectMade(strings.Repeat("i", size), most, want)
		expectMade(strings.Repeat("\x00", size), direct.Limits{Labels: 1, Pending: 1, Epochs: 1}, want)
	}
	for _, n := range []int{math.MinInt, -1, 0, 1, 2, 15, 16, 17, 31, 32, 33, 63, 64, 65, 1 << 32, 1<<32 + 1, math.MaxInt} {
		for i, top := range []int{64, 16, 32} {
			want := api.OK
			if n < 1 || n > top {
				want = api.ErrArg
			}
			l := most
			*[]*int{&l.Labels, &l.Pending, &l.Epochs}[i] = n
			expectMade("id", l, want)
			expectMade("", l, api.ErrArg)
		}
	}
	if d, err := direct.New(nil, direct.Keys{}, direct.Limits{}); d != nil || err != api.ErrArg {
		t.Errorf("nothing: %v", err)
	}
}

// A new directory is as it was made, at epoch 0, which has no labels (P19.1).
func TestNewOnes(t *testing.T) {
	for _, id := range []string{"a", "\x00", "sixteen bytes id", "\xff\xfe"} {
		for i, l := range []direct.Limits{most, {Labels: 1, Pending: 1, Epochs: 1}, {Labels: 7, Pending: 5, Epochs: 3}} {
			d, b := open(t, id, keys(byte(i)), l)
			expectBook(t, d, b, "a", "", "b")
			if d.Epoch() != 0 || d.Waiting() != 0 || d.Labels() != 0 || len(d.Waits()) != 0 {
				t.Errorf("%q isn't new", id)
			}
			marks, _ := d.Audit(0, 0)
			if marks[0].Root != tree.Empty() || marks[0].Link != chain.First([]byte(id)) {
				t.Errorf("%q: epoch 0 is %x", id, marks)
			}
		}
	}
	d, _ := open(t, "a", direct.Keys{}, most)
	if f, err := d.Lookup([]byte("x"), -1); err != api.OK || f.Ahead != [32]byte{} || f.Reads != 0 || len(f.Proof.Sums) != 0 || f.Proof.There {
		t.Errorf("of epoch 0: %+v, %v", f, err)
	}
}

// A label has 1 to 32 bytes, a value 0 to 64: of all bytes (P19.1).
func TestLabelsAndValues(t *testing.T) {
	d, b := open(t, "sizes", keys(2), most)
	all := []string{"", "\x00", "\x00\x00", "a", "A", "a\x00", "\xff", strings.Repeat("l", 31), strings.Repeat("l", 32), strings.Repeat("l", 33), strings.Repeat("l", 64), strings.Repeat("l", 65536+1), strings.Repeat("l", 65536)}
	for _, label := range all {
		for _, size := range []int{0, 1, 63, 64, 65, 128, 65536} {
			err := put(t, d, b, label, strings.Repeat("v", size))
			if bad := len(label) < 1 || len(label) > 32 || size > 64; bad != (err == api.ErrArg) {
				t.Errorf("a label of %d bytes, a value of %d: %v", len(label), size, err)
			}
			if d.Waiting() > 8 {
				seal(t, d, b)
			}
		}
	}
	expectBook(t, d, b, all...)
	seal(t, d, b)
	expectBook(t, d, b, all...)
	// Nil and empty ones are one (rule 3).
	if err := d.Put(nil, nil); err != api.ErrArg {
		t.Error(err)
	}
	if err := d.Put([]byte("a"), nil); err != api.OK || len(d.Waits()) != 1 || len(d.Waits()[0].Value) != 0 {
		t.Error(err, d.Waits())
	}
}

// As many puts wait as may, and not one more; behind a Seal as many again (P19.1).
func TestPending(t *testing.T) {
	for pending := 1; pending <= 16; pending++ {
		d, b := open(t, "pending", keys(3), direct.Limits{Labels: 64, Pending: pending, Epochs: 3})
		for range 3 {
			for i := range pending {
				if err := put(t, d, b, "l"+strconv.Itoa(i%5), strconv.Itoa(i)); err != api.OK || d.Waiting() != i+1 {
					t.Fatalf("put %d of %d: %v", i, pending, err)
				}
			}
			for _, label := range []string{"l0", "new"} {
				if err := put(t, d, b, label, ""); err != api.ErrQuota {
					t.Errorf("one more than %d: %v", pending, err)
				}
			}
			expectPlain(t, d, b)
			seal(t, d, b)
			expectPlain(t, d, b)
		}
	}
}

// There are as many labels as may be, those of puts that wait among them, and not one more; each may be put again (P19.1).
func TestLabels(t *testing.T) {
	for _, labels := range []int{1, 2, 3, 63, 64} {
		d, b := open(t, "labels", keys(4), direct.Limits{Labels: labels, Pending: 16, Epochs: 32})
		for i := range labels {
			if d.Waiting() == 15 {
				seal(t, d, b)
			}
			if err := put(t, d, b, "l"+strconv.Itoa(i), ""); err != api.OK || d.Labels() != i+1 {
				t.Fatalf("label %d of %d: %v", i, labels, err)
			}
		}
		for range 2 {
			if err := put(t, d, b, "more", ""); err != api.ErrQuota {
				t.Errorf("one more than %d: %v", labels, err)
			}
			for _, known := range []string{"l0", "l" + strconv.Itoa(labels-1)} {
				for d.Waiting() >= 15 {
					seal(t, d, b)
				}
				if err := put(t, d, b, known, "again"); err != api.OK || d.Labels() != labels {
					t.Errorf("%s again, of %d: %v", known, labels, err)
				}
			}
			seal(t, d, b)
		}
		expectPlain(t, d, b)
		if labels < 4 {
			expectBook(t, d, b, "l0", "l1", "l2", "more")
		}
	}
}

// There are as many epochs as may be, beside epoch 0, and not one more; what waits then goes on waiting (P19.1).
func TestEpochs(t *testing.T) {
	for _, epochs := range []int{1, 2, 31, 32} {
		d, b := open(t, "epochs", keys(5), direct.Limits{Labels: 2, Pending: 3, Epochs: epochs})
		for i := range epochs {
			if i%3 == 0 {
				put(t, d, b, "l", strconv.Itoa(i))
			}
			if err := seal(t, d, b); err != api.OK || d.Epoch() != i+1 {
				t.Fatalf("epoch %d of %d: %v", i+1, epochs, err)
			}
		}
		put(t, d, b, "l", "late")
		for range 2 {
			if err := seal(t, d, b); err != api.ErrQuota || d.Waiting() != 1 || d.Epoch() != epochs {
				t.Errorf("one more than %d: %v", epochs, err)
			}
		}
		if err := put(t, d, b, "other", "late"); err != api.OK {
			t.Error(err)
		}
		expectBook(t, d, b, "l", "other")
	}
}

// Puts are made in their order: a label that is put more than once in an epoch has as many versions in it, and the tree has the last one (P19.1).
func TestOneLabelTwice(t *testing.T) {
	d, b := open(t, "twice", keys(6), most)
	for _, values := range [][]string{{"one", "two", "one"}, {}, {"two"}, {"", "", "two", ""}} {
		for i, value := range values {
			put(t, d, b, "l", value)
			put(t, d, b, "other"+strconv.Itoa(i%2), value)
		}
		seal(t, d, b)
	}
	expectBook(t, d, b, "l", "other0", "other1")
	entries, err := d.History([]byte("l"))
	if err != api.OK || len(entries) != 8 {
		t.Fatalf("%d entries, %v", len(entries), err)
	}
	for i, epoch := range []int{1, 1, 1, 3, 4, 4, 4, 4} {
		if entries[i].Epoch != epoch || entries[i].Version != i+1 {
			t.Errorf("entry %d: %+v", i, entries[i])
		}
	}
	for epoch, version := range []int{0, 3, 3, 4, 8} {
		if f, err := d.Lookup([]byte("l"), epoch); err != api.OK || f.Version != version || f.Present != (epoch > 0) {
			t.Errorf("epoch %d: %+v, %v", epoch, f, err)
		}
	}
}

// A label that waits, and was never made, is not there yet: Lookup isn't Present, History misses it, but it is counted (P19.1).
func TestWaitingLabel(t *testing.T) {
	d, b := open(t, "waits", keys(7), most)
	put(t, d, b, "made", "m")
	seal(t, d, b)
	put(t, d, b, "waits", "w")
	put(t, d, b, "made", "n")
	if _, err := d.History([]byte("waits")); err != api.ErrMiss {
		t.Errorf("History: %v", err)
	}
	if f, err := d.Lookup([]byte("waits"), -1); err != api.OK || f.Present || f.Version != 0 || len(f.Value) != 0 || f.Bound != [32]byte{} || f.Open != [32]byte{} {
		t.Errorf("Lookup: %+v, %v", f, err)
	}
	if f, err := d.Lookup([]byte("made"), -1); err != api.OK || f.Version != 1 || string(f.Value) != "m" {
		t.Errorf("Lookup of one that was made: %+v, %v", f, err)
	}
	if d.Labels() != 2 || d.Waiting() != 2 {
		t.Errorf("%d labels, %d wait", d.Labels(), d.Waiting())
	}
	expectBook(t, d, b, "waits", "made", "never")
	seal(t, d, b)
	expectBook(t, d, b, "waits", "made", "never")
}

// -1 is the last epoch of Lookup alone; others below 0 and beyond the last one are none (P19.1).
func TestEpochsAsked(t *testing.T) {
	d, _ := known(t)
	for _, epoch := range []int{math.MinInt, -1 << 32, -4, -3, -2, -1, 0, 1, 2, 3, 4, 5, 1 << 32, math.MaxInt} {
		is, there := epoch, epoch >= 0 && epoch <= 3
		if epoch == -1 {
			is = 3
		}
		f, err := d.Lookup([]byte("a"), epoch)
		if there || epoch == -1 {
			if err != api.OK || f.Epoch != is {
				t.Errorf("Lookup at %d: %+v, %v", epoch, f, err)
			}
		} else if err != api.ErrMiss || said(f) != said(direct.Found{}) {
			t.Errorf("Lookup at %d: %+v, %v", epoch, f, err)
		}
		if l, err := d.Made(epoch); there != (err == api.OK) || !there && (err != api.ErrMiss || l != nil) {
			t.Errorf("Made %d: %v, %v", epoch, l, err)
		}
		for _, other := range []int{math.MinInt, -1, 0, 3, 4, math.MaxInt} {
			ok := there && other >= epoch && other <= 3
			if l, err := d.Audit(epoch, other); ok != (err == api.OK) || !ok && (err != api.ErrMiss || l != nil) {
				t.Errorf("Audit %d, %d: %v, %v", epoch, other, l, err)
			}
		}
	}
}

// Of refusals that fall together the first one in the chapter's order is told (P19.1; rule 1).
func TestOrderOfErrors(t *testing.T) {
	d, b := open(t, "order", keys(8), direct.Limits{Labels: 1, Pending: 1, Epochs: 1})
	long, longer := strings.Repeat("x", 33), strings.Repeat("x", 65)
	put(t, d, b, "a", "")
	for _, c := range []struct {
		label, value string
		want         api.Errno
	}{
		{"", "", api.ErrArg}, {long, "", api.ErrArg}, {"a", longer, api.ErrArg}, {"b", longer, api.ErrArg}, {"", longer, api.ErrArg},
		{"a", "", api.ErrQuota}, {"b", "", api.ErrQuota},
	} {
		if err := put(t, d, b, c.label, c.value); err != c.want {
			t.Errorf("Put(%d bytes, %d bytes): %v", len(c.label), len(c.value), err)
		}
	}
	for _, label := range []string{"", long} {
		for _, epoch := range []int{-2, -1, 0, 1, math.MaxInt} {
			if f, err := d.Lookup([]byte(label), epoch); err != api.ErrArg || said(f) != said(direct.Found{}) {
				t.Errorf("Lookup(%d bytes, %d): %v", len(label), epoch, err)
			}
		}
		if l, err := d.History([]byte(label)); err != api.ErrArg || l != nil {
			t.Errorf("History(%d bytes): %v", len(label), err)
		}
	}
	if _, err := d.Lookup([]byte("a"), 1); err != api.ErrMiss {
		t.Error(err)
	}
	expectBook(t, d, b, "a", "b")
}

// A call that refuses, or asks, has changed nothing (P19.1; rule 5).
func TestRefusalsChangeNothing(t *testing.T) {
	d, b := open(t, "refused", keys(9), direct.Limits{Labels: 3, Pending: 2, Epochs: 2})
	refusals := func() {
		t.Helper()
		for _, label := range []string{"", strings.Repeat("x", 33), "a", "new", "newer"} {
			if d.Waiting() == 2 || d.Labels() == 3 && label != "a" {
				d.Put([]byte(label), []byte("no"))
			}
			d.Put([]byte(label), make([]byte, 65))
			d.Lookup([]byte(label), -1)
			d.Lookup([]byte(label), 99)
			d.History([]byte(label))
		}
		d.Audit(-1, 99)
		d.Made(99)
		if d.Epoch() == 2 {
			d.Seal()
		}
		expectBook(t, d, b, "a", "b", "c", "new", "newer")
	}
	refusals()
	for _, labels := range [][]string{{"a", "b"}, {"c", "a"}, {"b", "b"}} {
		for _, label := range labels {
			put(t, d, b, label, "value of "+label)
			refusals()
		}
		seal(t, d, b)
		refusals()
	}
}

// Puts, seals and questions by chance: all is as the lists of what was put say (P19.1).
func TestAgainstBook(t *testing.T) {
	for seed := range int64(12) {
		r := rand.New(rand.NewSource(seed))
		l := direct.Limits{Labels: 1 + r.Intn(9), Pending: 1 + r.Intn(6), Epochs: 1 + r.Intn(9)}
		d, b := open(t, "chance"+strconv.Itoa(int(seed)), keys(byte(10+seed)), l)
		labels := []string{"never put", strings.Repeat("l", 33)}
		for i := range 11 {
			labels = append(labels, strings.Repeat(string(rune('a'+i)), 1+3*i%32))
		}
		for range 70 {
			if r.Intn(6) == 0 {
				seal(t, d, b)
				expectPlain(t, d, b)
			} else {
				value := make([]byte, r.Intn(67))
				r.Read(value)
				put(t, d, b, labels[r.Intn(len(labels))], string(value))
			}
		}
		expectBook(t, d, b, labels...)
	}
}

// A directory of as many labels, puts and epochs as may be (P19.1).
func TestFullDirectory(t *testing.T) {
	d, b := open(t, "sixteen bytes id", keys(40), most)
	for i := range 32 {
		for j := range 16 {
			put(t, d, b, "label "+strconv.Itoa((11*i+j)%64), strings.Repeat("v", (i*j)%65))
		}
		seal(t, d, b)
	}
	expectPlain(t, d, b)
	if d.Labels() != 64 || d.Epoch() != 32 {
		t.Fatalf("%d labels, %d epochs", d.Labels(), d.Epoch())
	}
	expectBook(t, d, b, "label 0", "label 63", "label 64")
}

// What is told is shown: by the public bytes, the root and the chain, at each epoch (P19.1).
func TestProofsAreTaken(t *testing.T) {
	d, b := known(t)
	put(t, d, b, "waits", "w")
	marks, _ := d.Audit(0, 3)
	for _, label := range []string{"a", "b", "c", "waits", "none"} {
		for epoch := range 4 {
			f, err := d.Lookup([]byte(label), epoch)
			if err != api.OK {
				t.Fatal(err)
			}
			sum, err := vrf.Check(d.Public(), []byte(label), f.Vrf)
			if err != api.OK || vrf.Index(sum) != f.Index {
				t.Errorf("%s, %d: index %v", label, epoch, err)
			}
			value, there, err := proof.Check(f.Root, f.Index, f.Proof)
			if err != api.OK || there != f.Present || value != f.Bound {
				t.Errorf("%s, %d: proof %v", label, epoch, err)
			}
			if err := commit.Check(f.Bound, f.Open, f.Index, f.Version, f.Value); f.Present && err != api.OK {
				t.Errorf("%s, %d: bound %v", label, epoch, err)
			}
			if f.Root != marks[epoch].Root || f.Link != marks[epoch].Link || epoch > 0 && f.Ahead != marks[epoch-1].Link {
				t.Errorf("%s, %d: marks", label, epoch)
			}
			if err := chain.Check(d.Id(), epoch, f.Ahead, [][32]byte{f.Root}, [][32]byte{f.Link}); epoch > 0 && err != api.OK {
				t.Errorf("%s, %d: chain %v", label, epoch, err)
			}
		}
	}
}

// told: all that is told of the epochs up to one.
func told(d *direct.Directory, last int, labels []string) (all []string) {
	for epoch := range last + 1 {
		for _, label := range labels {
			f, err := d.Lookup([]byte(label), epoch)
			all = append(all, said(f, err))
		}
		l, err := d.Made(epoch)
		marks, other := d.Audit(epoch, last)
		all = append(all, said(l, err), said(marks, other))
	}
	return all
}

// What was told of an epoch is told of it always, whatever is put and sealed behind; a label's entries are the beginning of those that it has later (P19.2).
func TestEpochsStay(t *testing.T) {
	labels := []string{"a", "b", "c", "d", "never"}
	d, b := open(t, "stays", keys(50), direct.Limits{Labels: 4, Pending: 5, Epochs: 8})
	var answers [][]string
	entries := map[string][]string{}
	for i := range 9 {
		answers = append(answers, told(d, i, labels))
		for _, label := range labels {
			l, _ := d.History([]byte(label))
			for j, e := range l {
				if j < len(entries[label]) && entries[label][j] != said(e) {
					t.Fatalf("%s: entry %d is another one", label, j)
				}
			}
			entries[label] = nil
			for _, e := range l {
				entries[label] = append(entries[label], said(e))
			}
		}
		for j := range i % 5 {
			put(t, d, b, labels[(i+2*j)%4], strconv.Itoa(i*j))
			expectTold(t, d, labels, answers)
		}
		seal(t, d, b)
		expectTold(t, d, labels, answers)
	}
}

func expectTold(t *testing.T, d *direct.Directory, labels []string, answers [][]string) {
	t.Helper()
	last := len(answers) - 1
	for i, got := range told(d, last, labels) {
		if got != answers[last][i] {
			t.Fatalf("answer %d of the epochs up to %d is another one: %.500s", i, last, got)
		}
	}
}

// Directories that were told the same tell the same, and no one tells what others were told (rule 5).
func TestDirectoriesAreApart(t *testing.T) {
	one, b := open(t, "one", keys(60), most)
	other, c := open(t, "other", keys(61), most)
	again, e := open(t, "one", keys(60), most)
	for i := range 5 {
		put(t, one, b, "l"+strconv.Itoa(i%2), "one")
		put(t, other, c, "l"+strconv.Itoa(i%3), "other")
		put(t, again, e, "l"+strconv.Itoa(i%2), "one")
		seal(t, one, b)
		if i%2 == 0 {
			seal(t, other, c)
		}
		seal(t, again, e)
	}
	expectBook(t, one, b, "l0", "l1", "l2")
	expectBook(t, other, c, "l0", "l1", "l2")
	expectBook(t, again, b, "l0", "l1", "l2")
}

// A nil directory: ErrArg, 0, nothing, whatever it is asked (P19.1; P1).
func TestNilDirectory(t *testing.T) {
	var d *direct.Directory
	nothing := said(direct.Found{}, api.ErrArg)
	for _, label := range [][]byte{nil, []byte("a"), make([]byte, 33)} {
		for _, epoch := range []int{math.MinInt, -1, 0, 1, math.MaxInt} {
			f, err := d.Lookup(label, epoch)
			expect(t, "Lookup", said(f, err), nothing)
			l, err := d.Made(epoch)
			expect(t, "Made", said(l, err), said([]direct.Pair{}, api.ErrArg))
			marks, err := d.Audit(epoch, 0)
			expect(t, "Audit", said(marks, err), said([]direct.Mark{}, api.ErrArg))
		}
		entries, err := d.History(label)
		expect(t, "History", said(entries, err), said([]direct.Entry{}, api.ErrArg))
		if err := d.Put(label, nil); err != api.ErrArg {
			t.Errorf("Put: %v", err)
		}
	}
	if n, err := d.Seal(); n != 0 || err != api.ErrArg {
		t.Errorf("Seal: %d, %v", n, err)
	}
	got := said(d.Id(), d.Keys(), d.Limits(), d.Public(), d.Epoch(), d.Waiting(), d.Labels(), d.Waits())
	expect(t, "as it stands", got, said([]byte{}, direct.Keys{}, direct.Limits{}, [32]byte{}, 0, 0, 0, []direct.Pair{}))
}
