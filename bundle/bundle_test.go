package bundle_test

import (
	"bytes"
	"encoding/hex"
	"math"
	"math/rand"
	"slices"
	"strings"
	"testing"

	"custumal/api"
	"custumal/bundle"
	"custumal/direct"
	"custumal/sha2"
)

func expectNone(t *testing.T, why string, b []byte) {
	t.Helper()
	if p, err := bundle.Unpack(b); p != (bundle.Parcel{}) || err != api.ErrBundle {
		t.Errorf("%s: %+v, %v", why, p, err)
	}
}

// The chapter's example (P25.1).
func TestExample(t *testing.T) {
	expectNone(t, "nil", nil)
	expectNone(t, "empty", []byte{})
}

// The bytes of a tenant of no epoch, written out (P25.1).
func TestPackWrittenOut(t *testing.T) {
	d, _ := direct.New([]byte("ab"), direct.Keys{Vrf: [32]byte{0xa1}, Bind: [32]byte{0xa2}}, direct.Limits{Labels: 2, Pending: 3, Epochs: 4})
	d.Put([]byte("l"), []byte("val"))
	noughts, link := strings.Repeat("00", 31), sha2.Sum([]byte{4}, []byte("ab"))
	want := "01 00026162 a1" + noughts + "a2" + noughts + "0000000000000002 0000000000000003 0000000000000004" +
		"00000000000003e8 7fffffffffffffff 01 0000000000000000 0000000000000001 00016c 000376616c" + hex.EncodeToString(link[:])
	got, err := bundle.Pack(bundle.Parcel{Directory: d, Period: 1000, Age: math.MaxInt, Held: true})
	if hex.EncodeToString(got) != strings.ReplaceAll(want, " ", "") || err != api.OK {
		t.Errorf("%x, %v", got, err)
	}
}

// Tenants of many kinds: the bytes, and back (P25.1, P25.2).
func TestPackAndUnpack(t *testing.T) {
	all, parcels := stories(t)
	fullStory, fullParcel := fullest(t)
	for i, p := range append(parcels, fullParcel) {
		s := append(all, fullStory)[i]
		b, err := bundle.Pack(p)
		if !bytes.Equal(b, s.bytes()) || err != api.OK {
			t.Fatalf("%d: %x, %v, not %x", i, b, err, s.bytes())
		}
		if len(b) > 65535 {
			t.Errorf("%d: %d bytes are more than a text has", i, len(b))
		}
		back, err := bundle.Unpack(b)
		if err != api.OK || back.Period != s.period || back.Age != s.age || back.Held != (s.held == 1) || back.Directory == nil {
			t.Fatalf("%d: %+v, %v", i, back, err)
		}
		if back.Directory == p.Directory {
			t.Error("the directory isn't a new one")
		}
		labels := []string{"a", "b", "never"}
		if got, want := tells(back.Directory, labels...), tells(p.Directory, labels...); got != want {
			t.Errorf("%d: %.2000s, not %.2000s", i, got, want)
		}
		if again, err := bundle.Pack(back); !bytes.Equal(again, b) || err != api.OK {
			t.Errorf("%d: packed again: %x, %v", i, again, err)
		}
	}
}

// What is unpacked goes on as what was packed, whatever is put and sealed (P25.2); at each step it may be packed again.
func TestUnpackedGoesOn(t *testing.T) {
	c := rand.New(rand.NewSource(1))
	labels := []string{"a", "b", "c", "d", "", strings.Repeat("x", 33)}
	for round := range 6 {
		limits := direct.Limits{Labels: 1 + round%4, Pending: 1 + c.Intn(5), Epochs: 1 + c.Intn(8)}
		d, err := direct.New([]byte("goes on"), someKeys, limits)
		if err != api.OK {
			t.Fatal(err)
		}
		other, _ := direct.New([]byte("goes on"), someKeys, limits)
		for range 12 {
			for range 4 {
				does(t, c, d, other, labels)
			}
			b, err := bundle.Pack(bundle.Parcel{Directory: other, Period: 1})
			if err != api.OK {
				t.Fatal(err)
			}
			p, err := bundle.Unpack(b)
			if err != api.OK {
				t.Fatalf("%x: %v", b, err)
			}
			other = p.Directory
		}
		if got, want := tells(other, labels...), tells(d, labels...); got != want {
			t.Errorf("%.2000s, not %.2000s", got, want)
		}
	}
}

// Pack of nothing, and of numbers outside their range (P25.1).
func TestPackOfNone(t *testing.T) {
	_, p := told(t, "a", few, nil, []direct.Pair{pair("a", "1")})
	for _, period := range []int{math.MinInt, -1, 0, 1, 2, 999, 1000, 1001, 1 << 32, math.MaxInt} {
		for _, age := range []int{math.MinInt, -1, 0, 1, 1 << 32, math.MaxInt} {
			for _, d := range []*direct.Directory{nil, p.Directory} {
				for _, held := range []bool{false, true} {
					b, err := bundle.Pack(bundle.Parcel{Directory: d, Period: period, Age: age, Held: held})
					if isOne := d != nil && period >= 1 && period <= 1000 && age >= 0; isOne != (err == api.OK) || isOne != (b != nil) || !isOne && err != api.ErrArg {
						t.Errorf("period %d, age %d, %v: %x, %v", period, age, d != nil, b, err)
					}
				}
			}
		}
	}
}

// A bundle that ends too soon, or has more behind (P25.1).
func TestBytesThatEndElsewhere(t *testing.T) {
	s, _ := told(t, "a", few, []direct.Pair{pair("a", "2")}, []direct.Pair{pair("a", "1")}, nil)
	b := s.bytes()
	for n := range b {
		expectNone(t, "bytes are missing", b[:n])
	}
	for _, behind := range [][]byte{{0}, {1}, b[len(b)-32:], b} {
		expectNone(t, "bytes stand behind", slices.Concat(b, behind))
	}
	expectNone(t, "nothing but a first byte", []byte{1})
	if _, err := bundle.Unpack(b); err != api.OK {
		t.Error(err)
	}
}

// A bundle with a byte changed is none; or it's just that of another tenant, where what was changed may be that (P25.1).
func TestChangedBytes(t *testing.T) {
	s, _ := told(t, "ab", direct.Limits{Labels: 3, Pending: 4, Epochs: 5}, []direct.Pair{pair("a", "3"), pair("w", "4")}, []direct.Pair{pair("a", "1"), pair("b", "2")}, nil)
	names, parts := s.parts()
	may := []string{"labels", "pending", "epochs", "period", "age", "held", "waits label", "waits value"}
	others := map[string]int{}
	for i, part := range parts {
		for j := range part {
			for _, x := range []byte{1, 2, 4, 0x80, 0xff, part[j]} {
				if x == 0 {
					continue
				}
				changed := slices.Clone(part)
				changed[j] ^= x
				b := slices.Concat(slices.Concat(parts[:i]...), changed, slices.Concat(parts[i+1:]...))
				p, err := bundle.Unpack(b)
				if err == api.ErrBundle && p == (bundle.Parcel{}) {
					continue
				}
				again, _ := bundle.Pack(p)
				if err != api.OK || !slices.Contains(may, names[i]) || !bytes.Equal(again, b) {
					t.Errorf("%s, byte %d changed by %d: %+v, %v", names[i], j, x, p, err)
				}
				others[names[i]]++
			}
		}
	}
	for _, name := range may {
		if others[name] == 0 {
			t.Errorf("no other %s is taken", name)
		}
	}
}

// Numbers outside their range, and others within it (P25.1).
func TestNumbers(t *testing.T) {
	s, _ := told(t, "a", few, []direct.Pair{pair("b", "2")}, []direct.Pair{pair("a", "1")}, nil)
	for name, c := range map[string]struct {
		number      *int
		least, most int
	}{
		"first":   {&s.first, 1, 1},
		"labels":  {&s.limits.Labels, 2, 64},
		"pending": {&s.limits.Pending, 1, 16},
		"epochs":  {&s.limits.Epochs, 2, 32},
		"period":  {&s.period, 1, 1000},
		"age":     {&s.age, 0, math.MaxInt},
		"last":    {&s.last, 2, 2},
	} {
		was := *c.number
		for _, n := range []int{math.MinInt, -1, 0, 1, 2, 3, 16, 17, 32, 33, 64, 65, 255, 1000, 1001, 1 << 32, math.MaxInt} {
			if *c.number = n; name == "first" && n != int(byte(n)) {
				continue
			}
			b := s.bytes()
			if n < c.least || n > c.most {
				expectNone(t, name, b)
				continue
			}
			p, err := bundle.Unpack(b)
			again, _ := bundle.Pack(p)
			if err != api.OK || !bytes.Equal(again, b) {
				t.Errorf("%s %d: %v", name, n, err)
			}
		}
		*c.number = was
	}
	for n := range 256 {
		s.held = byte(n)
		if p, err := bundle.Unpack(s.bytes()); (n > 1) != (err == api.ErrBundle) || p.Held != (n == 1) {
			t.Errorf("held %d: %v, %v", n, p.Held, err)
		}
	}
}

// Counts of puts that aren't theirs (P25.1).
func TestCounts(t *testing.T) {
	s, _ := told(t, "a", few, []direct.Pair{pair("b", "2")}, []direct.Pair{pair("a", "1"), pair("a", "2")}, nil)
	names, parts := s.parts()
	for i, name := range names {
		if !strings.HasSuffix(name, "count") {
			continue
		}
		was := parts[i]
		for _, n := range []int{math.MinInt, -2, -1, 0, 1, 2, 3, 4, 5, 16, 17, 1 << 16, 1 << 40, math.MaxInt} {
			if parts[i] = num(n); !bytes.Equal(parts[i], was) {
				expectNone(t, name, slices.Concat(parts...))
			}
		}
		parts[i] = was
	}
	if _, err := bundle.Unpack(slices.Concat(parts...)); err != api.OK {
		t.Error(err)
	}
}

// A put or a seal that is refused, and ids that are none (P25.1).
func TestRefusedPuts(t *testing.T) {
	// A directory that takes more tells roots and link of what this one refuses.
	expectLess := func(why string, limits direct.Limits, waits []direct.Pair, made ...[]direct.Pair) {
		t.Helper()
		s, _ := told(t, "a", most, waits, made...)
		if _, err := bundle.Unpack(s.bytes()); err != api.OK {
			t.Errorf("%s: %v with all limits", why, err)
		}
		s.limits = limits
		expectNone(t, why, s.bytes())
	}
	a, b, c := pair("a", "1"), pair("b", "2"), pair("c", "3")
	expectLess("more labels, sealed", direct.Limits{Labels: 2, Pending: 16, Epochs: 32}, nil, []direct.Pair{a, b}, []direct.Pair{c})
	expectLess("more labels, waiting", direct.Limits{Labels: 2, Pending: 16, Epochs: 32}, []direct.Pair{c}, []direct.Pair{a, b})
	expectLess("more puts, sealed", direct.Limits{Labels: 64, Pending: 2, Epochs: 32}, nil, []direct.Pair{a, a}, []direct.Pair{a, a, a})
	expectLess("more puts, waiting", direct.Limits{Labels: 64, Pending: 2, Epochs: 32}, []direct.Pair{a, a, a}, []direct.Pair{a})
	expectLess("more epochs", direct.Limits{Labels: 64, Pending: 16, Epochs: 2}, nil, nil, []direct.Pair{a}, nil)
	for _, bad := range []direct.Pair{pair("", "1"), pair(strings.Repeat("l", 33), "1"), pair("a", strings.Repeat("v", 65)), pair("a", strings.Repeat("v", 65535))} {
		s, _ := told(t, "a", few, nil, []direct.Pair{a})
		s.waits = []direct.Pair{bad}
		expectNone(t, "a put that waits", s.bytes())
		s, _ = told(t, "a", few, nil, []direct.Pair{a})
		s.made = [][]direct.Pair{{a, bad}}
		expectNone(t, "a put", s.bytes())
	}
	for _, id := range []string{"", strings.Repeat("i", 17), strings.Repeat("i", 65535)} {
		s, _ := told(t, "a", few, nil)
		s.id, s.link = id, sha2.Sum([]byte{4}, []byte(id))
		expectNone(t, "an id", s.bytes())
	}
}

// Roots and links that aren't what comes out; also those of another epoch or tenant (P25.1).
func TestFalseRoots(t *testing.T) {
	puts := [][]direct.Pair{{pair("a", "1")}, nil, {pair("b", "2"), pair("a", "3")}}
	s, p := told(t, "a", few, nil, puts...)
	for i := range s.roots {
		for _, root := range [][32]byte{{}, s.link, s.roots[(i+2)%3], sha2.Sum()} {
			f := s
			if f.roots = slices.Clone(s.roots); root != s.roots[i] {
				f.roots[i] = root
				expectNone(t, "a root", f.bytes())
			}
		}
	}
	marks, _ := p.Directory.Audit(0, 3)
	other, _ := told(t, "b", few, nil, puts...)
	for _, link := range [][32]byte{{}, marks[0].Link, marks[2].Link, marks[3].Root, other.link} {
		f := s
		f.link = link
		expectNone(t, "a link", f.bytes())
	}
	f := s
	f.keys.Bind[0]++
	expectNone(t, "a key", f.bytes())
	f = s
	f.keys.Vrf[0]++
	expectNone(t, "a key", f.bytes())
	f = s
	f.made = [][]direct.Pair{puts[0], nil, {puts[2][0], pair("a", "4")}}
	expectNone(t, "a value", f.bytes())
	f.made = [][]direct.Pair{puts[0], puts[1], {pair("c", "2"), puts[2][1]}}
	expectNone(t, "a label", f.bytes())
}

// What is handed in is neither changed nor kept, and a directory is asked alone (P25.3).
func TestWhatIsHandedIn(t *testing.T) {
	s, p := told(t, "a", few, []direct.Pair{pair("b", "2")}, []direct.Pair{pair("a", "1")})
	want := s.bytes()
	was := tells(p.Directory, "a", "b")
	b, err := bundle.Pack(p)
	if tells(p.Directory, "a", "b") != was || err != api.OK {
		t.Errorf("the directory is another one: %v", err)
	}
	own := append(slices.Clone(b), "spare room"...)[:len(b)]
	back, err := bundle.Unpack(own)
	if err != api.OK || string(own[:len(b)+10]) != string(b)+"spare room" {
		t.Errorf("bytes are changed: %v", err)
	}
	clear(own[:cap(own)])
	if again, _ := bundle.Pack(back); !bytes.Equal(again, want) || tells(back.Directory, "a", "b") != was {
		t.Errorf("%x, not %x", again, want)
	}
	// What becomes of the one directory is nothing to the other one, nor to bytes that were told.
	back.Directory.Put([]byte("c"), nil)
	back.Directory.Seal()
	if tells(p.Directory, "a", "b") != was {
		t.Error("directories have something in common")
	}
	if !bytes.Equal(b, want) {
		t.Error("bytes aren't as they were told")
	}
	clear(b[:cap(b)])
	if again, err := bundle.Pack(p); !bytes.Equal(again, want) || err != api.OK {
		t.Errorf("%x, not %x", again, want)
	}
}

// Bytes by chance: they are no bundle's, but for those that Pack tells of what comes of them (P25.1).
func TestBytesByChance(t *testing.T) {
	c := rand.New(rand.NewSource(2))
	s, _ := told(t, "a", few, []direct.Pair{pair("b", "2")}, []direct.Pair{pair("a", "1")})
	b := s.bytes()
	for range 400 {
		changed := slices.Clone(b)
		for range 1 + c.Intn(3) {
			at, n := c.Intn(len(changed)), c.Intn(4)
			switch c.Intn(3) {
			case 0:
				changed[at] = byte(c.Intn(256))
			case 1:
				changed = slices.Delete(changed, at, min(at+n, len(changed)))
			case 2:
				changed = slices.Insert(changed, at, make([]byte, n)...)
			}
		}
		p, err := bundle.Unpack(changed)
		if err == api.ErrBundle && p == (bundle.Parcel{}) {
			continue
		}
		if again, _ := bundle.Pack(p); err != api.OK || !bytes.Equal(again, changed) {
			t.Errorf("%x: %v", changed, err)
		}
	}
	for range 200 {
		changed := make([]byte, c.Intn(400))
		c.Read(changed)
		expectNone(t, "bytes", changed)
		if len(changed) > 0 {
			changed[0] = 1
			expectNone(t, "bytes behind the first one", changed)
		}
	}
}
