package vrf_test

import (
	"bytes"
	"encoding/hex"
	"slices"
	"testing"

	"custumal/api"
	"custumal/edwards"
	"custumal/scalar"
	"custumal/sign"
	"custumal/vrf"
)

// prove: a proof, which must come about.
func prove(t *testing.T, seed [32]byte, text []byte) [vrf.Size]byte {
	t.Helper()
	proof, err := vrf.Prove(seed, text)
	if err != api.OK {
		t.Fatalf("seed %x, text %x: %v", seed, text, err)
	}
	return proof
}

// The examples of RFC 9381 (P2, P9.1).
func TestKnownProofs(t *testing.T) {
	for _, c := range []struct{ seed, public, text, proof, sum string }{
		{
			"9d61b19deffd5a60ba844af492ec2cc44449c5697b326919703bac031cae7f60",
			"d75a980182b10ab7d54bfed3c964073a0ee172f3daa62325af021a68f707511a",
			"",
			"8657106690b5526245a92b003bb079ccd1a92130477671f6fc01ad16f26f723f26f8a57ccaed74ee1b190bed1f479d9727d2d0f9b005a6e456a35d4fb0daab1268a1b0db10836d9826a528ca76567805",
			"90cf1df3b703cce59e2a35b925d411164068269d7b2d29f3301c03dd757876ff66b71dda49d2de59d03450451af026798e8f81cd2e333de5cdf4f3e140fdd8ae",
		},
		{
			"4ccd089b28ff96da9db6c346ec114e0f5b8a319f35aba624da8cf6ed4fb8a6fb",
			"3d4017c3e843895a92b70aa74d1b7ebc9c982ccf2ec4968cc0cd55f12af4660c",
			"72",
			"f3141cd382dc42909d19ec5110469e4feae18300e94f304590abdced48aed5933bf0864a62558b3ed7f2fea45c92a465301b3bbf5e3e54ddf2d935be3b67926da3ef39226bbc355bdc9850112c8f4b02",
			"eb4440665d3891d668e7e0fcaf587f1b4bd7fbfe99d0eb2211ccec90496310eb5e33821bc613efb94db5e5b54c70a848a0bef4553a41befc57663b56373a5031",
		},
		{
			"c5aa8df43f9f837bedb7442f31dcb7b166d38535076f094b85ce3a2e0b4458f7",
			"fc51cd8e6218a1a38da47ed00230f0580816ed13ba3303ac5deb911548908025",
			"af82",
			"9bc0f79119cc5604bf02d23b4caede71393cedfbb191434dd016d30177ccbf8096bb474e53895c362d8628ee9f9ea3c0e52c7a5c691b6c18c9979866568add7a2d41b00b05081ed0f58ee5e31b3a970e",
			"645427e5d00c62a23fb703732fa5d892940935942101e456ecca7bb217c61c452118fec1219202a0edcf038bb6373241578be7217ba85a2687f7a0310b2df19f",
		},
	} {
		b := ofHex(t, c.text)
		proof := prove(t, [32]byte(ofHex(t, c.seed)), b)
		if hex.EncodeToString(proof[:]) != c.proof {
			t.Errorf("seed %s: proof %x", c.seed, proof)
		}
		sum, err := vrf.Check([32]byte(ofHex(t, c.public)), b, proof)
		if err != api.OK || hex.EncodeToString(sum[:]) != c.sum {
			t.Errorf("seed %s: %x, %v", c.seed, sum, err)
		}
		if index := vrf.Index(sum); hex.EncodeToString(index[:]) != c.sum[:64] {
			t.Errorf("seed %s: index %x", c.seed, index)
		}
	}
}

// Texts of many lengths, by some seeds: the document's proof, which is checked, with its sum; texts whose first sums are no point are among them (P9.1, P9.2).
func TestProveAndCheck(t *testing.T) {
	sizes := []int{1000, 65536, 1 << 20}
	for size := range 120 {
		sizes = append(sizes, size)
	}
	count := map[int]int{}
	for i, size := range sizes {
		seed, b := [32]byte{byte(i % 3), 31: byte(i / 50)}, text(size)
		proof := prove(t, seed, b)
		if want := honest(t, seed, b); proof != want {
			t.Errorf("seed %x, %d bytes: %x, not %x", seed, size, proof, want)
		}
		public := sign.Spread(seed).Public
		check(t, "proved", public, b, proof, api.OK)
		if sum, err := vrf.Sum(proof); err != api.OK || sum != sumOf(pointIn(t, proof)) {
			t.Errorf("%d bytes: the proof's sum: %x, %v", size, sum, err)
		}
		_, c := pointOf(t, public, b)
		count[c]++
	}
	for c := range 5 {
		if count[c] == 0 {
			t.Errorf("no text whose point comes by the count %d: %v", c, count)
		}
	}
}

// A text's proof by a seed is always the same; nil and empty texts are one; other texts and seeds have others (P9.1; rule 3).
func TestSameProof(t *testing.T) {
	seed := [32]byte{5}
	proof := prove(t, seed, text(10))
	if prove(t, seed, text(10)) != proof {
		t.Error("another one")
	}
	if prove(t, seed, text(11)) == proof || prove(t, [32]byte{6}, text(10)) == proof {
		t.Error("the same for others")
	}
	public, none := sign.Spread(seed).Public, prove(t, seed, nil)
	if none != prove(t, seed, []byte{}) {
		t.Error("nil and empty differ")
	}
	check(t, "nil", public, nil, none, api.OK)
	check(t, "empty", public, []byte{}, none, api.OK)
	check(t, "a nought", public, []byte{0}, none, api.ErrProof)
}

// A bit turned, wherever it is, and what it is called then (P9.1).
func TestTurnedBits(t *testing.T) {
	seed, b := [32]byte{9}, text(30)
	public, proof := sign.Spread(seed).Public, prove(t, seed, b)
	for bit := range 8 * vrf.Size {
		other := proof
		other[bit/8] ^= 1 << (bit % 8)
		check(t, "the proof's bit", public, b, other, api.ErrProof)
	}
	for bit := range 8 * len(b) {
		other := slices.Clone(b)
		other[bit/8] ^= 1 << (bit % 8)
		check(t, "the text's bit", public, other, proof, api.ErrProof)
	}
	count := map[api.Errno]int{}
	for bit := range 256 {
		other, want := public, api.ErrProof
		other[bit/8] ^= 1 << (bit % 8)
		if _, err := edwards.Decode(other); err != api.OK {
			want = api.ErrPoint
		}
		check(t, "the public bytes' bit", other, b, proof, want)
		count[want]++
	}
	if len(count) != 2 {
		t.Errorf("not each kind of answer came about: %v", count)
	}
}

// Another's public bytes, another text, and proofs put together of two (P9.1).
func TestOthers(t *testing.T) {
	seed, b := [32]byte{9}, text(30)
	public, proof := sign.Spread(seed).Public, prove(t, seed, b)
	check(t, "another's public bytes", sign.Spread([32]byte{10}).Public, b, proof, api.ErrProof)
	check(t, "cut", public, b[:29], proof, api.ErrProof)
	check(t, "a byte more", public, b[:31], proof, api.ErrProof)
	check(t, "no proof", public, b, [vrf.Size]byte{}, api.ErrProof)
	for _, other := range [][vrf.Size]byte{prove(t, seed, b[:29]), prove(t, [32]byte{10}, b)} {
		check(t, "another proof", public, b, other, api.ErrProof)
		for _, part := range [][2]int{{0, 32}, {32, 48}, {48, 80}} {
			mixed := proof
			copy(mixed[part[0]:part[1]], other[part[0]:part[1]])
			check(t, "another's part", public, b, mixed, api.ErrProof)
		}
	}
}

// What is handed in stays as it was, its spare room too, and isn't kept (P9.3).
func TestNothingKeptOrChanged(t *testing.T) {
	seed := [32]byte{3}
	public := sign.Spread(seed).Public
	for _, size := range []int{0, 1, 63, 64, 128, 300} {
		b := text(size)
		before := slices.Clone(b[:cap(b)])
		proof := prove(t, seed, b)
		vrf.Check(public, b, proof)
		if !bytes.Equal(b[:cap(b)], before) {
			t.Errorf("%d bytes: changed", size)
		}
		clear(b[:cap(b)])
		if prove(t, seed, before[:size]) != proof {
			t.Errorf("%d bytes: kept", size)
		}
		check(t, "kept", public, before[:size], proof, api.OK)
	}
}

// Public bytes that are no point, or a small one's: ahead of all that is wrong with the proof (P9.1; rule 1).
func TestPublicThatMayNotBe(t *testing.T) {
	b := text(30)
	publics := noPoints(t)
	for n := range 8 {
		publics = append(publics, small(t, n).Encode())
	}
	all := [vrf.Size]byte(bytes.Repeat([]byte{0xff}, vrf.Size))
	for _, public := range publics {
		check(t, "another's proof", public, b, prove(t, [32]byte{9}, b), api.ErrPoint)
		check(t, "noughts", public, b, [vrf.Size]byte{}, api.ErrPoint)
		check(t, "no point, and a number beyond the order", public, b, all, api.ErrPoint)
		if _, err := edwards.Decode(public); err == api.OK { // by the number nought, G would be the neutral point
			m := maker{public: public}
			h, _ := pointOf(t, public, b)
			check(t, "what would be one's", public, b, m.made(h, edwards.Point{}, scalar.Num{7}), api.ErrPoint)
		}
	}
}

// The number s is taken below the order alone, though beyond it the points would be the same (P9.1).
func TestNumberBeyondTheOrder(t *testing.T) {
	b, m := text(30), makerOf([32]byte{9})
	h, _ := pointOf(t, m.public, b)
	most := scalar.Bytes(scalar.Neg(scalar.Num{1}))
	proof := m.made(h, often(h, m.x), scalar.Num{1})
	check(t, "below", m.public, b, proof, api.OK)
	for range 14 {
		over := 1
		for i := range most { // the order is the most, and 1
			over += int(proof[48+i]) + int(most[i])
			proof[48+i], over = byte(over), over>>8
		}
		check(t, "beyond", m.public, b, proof, api.ErrProof)
	}
}

// A proof begins with a point's own bytes (P9.1; rule 2).
func TestNoPointInProof(t *testing.T) {
	b, seed := text(30), [32]byte{9}
	public, proof := sign.Spread(seed).Public, prove(t, seed, b)
	for _, first := range noPoints(t) {
		copy(proof[:], first[:])
		check(t, "no point", public, b, proof, api.ErrProof)
		if sum, err := vrf.Sum(proof); err != api.ErrProof || sum != [64]byte{} {
			t.Errorf("the sum of %x: %x, %v", proof, sum, err)
		}
	}
}

// One number makes both the public point of the base and the proof's point of the text's: each of them is looked at (P9.1).
func TestOneNumberForBoth(t *testing.T) {
	b, m := text(30), makerOf([32]byte{9})
	h, _ := pointOf(t, m.public, b)
	other := maker{scalar.Add(m.x, scalar.Num{1}), m.public}
	k := scalar.Num{1 << 40, 3}
	check(t, "its own", m.public, b, m.made(h, often(h, m.x), k), api.OK)
	check(t, "another's public bytes", m.public, b, other.made(h, often(h, other.x), k), api.ErrProof)
	check(t, "another point", m.public, b, m.made(h, often(h, other.x), k), api.ErrProof)
	check(t, "the text's point itself", m.public, b, m.made(h, h, k), api.ErrProof)
	check(t, "the neutral point", m.public, b, m.made(h, edwards.Point{}, k), api.ErrProof)
	check(t, "of another text", m.public, text(31), m.made(h, often(h, m.x), k), api.ErrProof)
}

// A small point beside the public one, or beside the proof's, is taken where c times it is the neutral one; the sum is then that of the proof without it (P9.1).
func TestSmallPointBeside(t *testing.T) {
	b, plain := text(30), makerOf([32]byte{9})
	count := map[api.Errno]int{}
	for n := range 8 {
		for beside := range 8 {
			m := plain
			m.public = often(edwards.Base(), m.x).Add(small(t, n)).Encode()
			h, _ := pointOf(t, m.public, b)
			g := often(h, m.x)
			proof := m.made(h, g.Add(small(t, beside)), scalar.Num{uint64(n + 1)})
			want, c := api.OK, int(proof[32])
			if c*n%8 != 0 || c*beside%8 != 0 {
				want = api.ErrProof
			}
			check(t, "beside a small point", m.public, b, proof, want)
			if sum, err := vrf.Sum(proof); err != api.OK || sum != sumOf(g) {
				t.Errorf("the sum with a small point: %x, %v", sum, err)
			}
			if n > 0 || beside > 0 {
				count[want]++
			}
		}
	}
	if len(count) != 2 {
		t.Errorf("not each kind of answer came about: %v", count)
	}
}

// Sum looks at the first 32 bytes alone, and takes any point (P9.1).
func TestSumLooksAtThePointAlone(t *testing.T) {
	seed := [32]byte{9}
	proof := prove(t, seed, text(30))
	want, _ := vrf.Sum(proof)
	for _, fill := range []byte{0, 1, 0xff} {
		for i := 32; i < vrf.Size; i++ {
			proof[i] = fill
		}
		if sum, err := vrf.Sum(proof); err != api.OK || sum != want {
			t.Errorf("behind the point %x: %x, %v", fill, sum, err)
		}
	}
	for n := range 8 {
		var proof [vrf.Size]byte
		copy(proof[:], encoded(small(t, n)))
		if sum, err := vrf.Sum(proof); err != api.OK || sum != sumOf(edwards.Point{}) {
			t.Errorf("a small point: %x, %v", sum, err)
		}
	}
}

// An index is the first half of whatever sum (P9.1).
func TestIndex(t *testing.T) {
	for size := range 20 {
		sum := [64]byte(text(64 + size)[size:])
		if index := vrf.Index(sum); !bytes.Equal(index[:], sum[:32]) {
			t.Errorf("the index of %x: %x", sum, index)
		}
	}
}
