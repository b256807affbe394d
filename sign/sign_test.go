package sign_test

import (
	"bytes"
	"crypto/ed25519"
	"crypto/sha512"
	"encoding/hex"
	"math"
	"math/bits"
	"math/rand"
	"slices"
	"testing"

	"custumal/api"
	"custumal/edwards"
	"custumal/scalar"
	"custumal/sign"
)

// text: bytes that differ, with spare room behind them.
func text(size int) []byte {
	b := make([]byte, size, size+100)
	rand.New(rand.NewSource(int64(size))).Read(b[:cap(b)])
	return b
}

// seeds: no bits, all bits, and some.
func seeds() [][32]byte {
	all := [][32]byte{{}, {}, {1}, {31: 0x80}}
	for i := range all[1] {
		all[1][i] = 0xff
	}
	r := rand.New(rand.NewSource(1))
	for range 16 {
		var seed [32]byte
		r.Read(seed[:])
		all = append(all, seed)
	}
	return all
}

func ofHex(t *testing.T, text string) []byte {
	t.Helper()
	b, err := hex.DecodeString(text)
	if err != nil {
		t.Fatal(err)
	}
	return b
}

// key: the library's, of a seed.
func key(seed [32]byte) ed25519.PrivateKey { return ed25519.NewKeyFromSeed(seed[:]) }

// expect: is that the answer, and does the library say so too? (It takes more public bytes than the document: those aren't for here.)
func expect(t *testing.T, why string, public [32]byte, text []byte, sig [64]byte, want api.Errno) {
	t.Helper()
	if got := sign.Verify(public, text, sig); got != want {
		t.Errorf("%s: %v, not %v", why, got, want)
	}
	if ed25519.Verify(public[:], text, sig[:]) != (want == api.OK) {
		t.Errorf("%s: the library says otherwise than %v", why, want)
	}
}

// The examples of RFC 8032 and of the document (P2, P8.1).
func TestKnownSignatures(t *testing.T) {
	for _, c := range []struct{ seed, public, text, sig string }{
		{
			"9d61b19deffd5a60ba844af492ec2cc44449c5697b326919703bac031cae7f60",
			"d75a980182b10ab7d54bfed3c964073a0ee172f3daa62325af021a68f707511a",
			"",
			"e5564300c360ac729086e2cc806e828a84877f1eb8e5d974d873e065224901555fb8821590a33bacc61e39701cf9b46bd25bf5f0595bbe24655141438e7a100b",
		},
		{
			"4ccd089b28ff96da9db6c346ec114e0f5b8a319f35aba624da8cf6ed4fb8a6fb",
			"3d4017c3e843895a92b70aa74d1b7ebc9c982ccf2ec4968cc0cd55f12af4660c",
			"72",
			"92a009a9f0d4cab8720e820b5f642540a2b27b5416503f8fb3762223ebdb69da085ac1e43e15996e458f3613d0f11d8c387b2eaeb4302aeeb00d291612bb0c00",
		},
		{
			"c5aa8df43f9f837bedb7442f31dcb7b166d38535076f094b85ce3a2e0b4458f7",
			"fc51cd8e6218a1a38da47ed00230f0580816ed13ba3303ac5deb911548908025",
			"af82",
			"6291d657deec24024827e69c3abe01a30ce548a284743a445e3680d7db5ac3ac18ff9b538d16f290ae67f760984dc6594a7c15e9716ed28dc027beceea1ec40a",
		},
	} {
		seed, b := [32]byte(ofHex(t, c.seed)), ofHex(t, c.text)
		if got := sign.Spread(seed).Public; hex.EncodeToString(got[:]) != c.public {
			t.Errorf("seed %s: Public %x", c.seed, got)
		}
		sig := sign.Sign(seed, b)
		if hex.EncodeToString(sig[:]) != c.sig {
			t.Errorf("seed %s: signature %x", c.seed, sig)
		}
		expect(t, "known", [32]byte(ofHex(t, c.public)), b, sig, api.OK)
	}
}

// A secret's parts, of the library's sum of the seed, and the library's public bytes (P8.1).
func TestSpread(t *testing.T) {
	for _, seed := range seeds() {
		sum := sha512.Sum512(seed[:])
		want := sign.Secret{Number: [32]byte(sum[:32]), Draw: [32]byte(sum[32:])}
		want.Number[0] &= 0xf8
		want.Number[31] = want.Number[31]&0x3f | 0x40
		want.Public = [32]byte(key(seed).Public().(ed25519.PublicKey))
		if got := sign.Spread(seed); got != want {
			t.Errorf("seed %x: %x, not %x", seed, got, want)
		}
	}
}

// Texts of all lengths round the ends of the sums' blocks, and long ones: the library's signatures, which are taken (P2, P8.1, P8.2).
func TestSignAsTheLibrary(t *testing.T) {
	sizes := []int{1000, 65535, 65536, 1 << 20}
	for size := range 200 {
		sizes = append(sizes, size)
	}
	all := seeds()
	for i, size := range sizes {
		seed, b := all[i%len(all)], text(size)
		sig := sign.Sign(seed, b)
		if want := [64]byte(ed25519.Sign(key(seed), b)); sig != want {
			t.Errorf("seed %x, %d bytes: %x, not %x", seed, size, sig, want)
		}
		expect(t, "signed", sign.Spread(seed).Public, b, sig, api.OK)
	}
}

// Nil and empty texts are one (rule 3; P8.1).
func TestNoText(t *testing.T) {
	seed := [32]byte{7}
	public, sig := sign.Spread(seed).Public, sign.Sign(seed, nil)
	if sig != sign.Sign(seed, []byte{}) {
		t.Error("signatures differ")
	}
	expect(t, "nil", public, nil, sig, api.OK)
	expect(t, "empty", public, []byte{}, sig, api.OK)
	expect(t, "a nought", public, []byte{0}, sig, api.ErrSig)
}

// A bit turned, wherever it is, and what it is called then (P8.1).
func TestTurnedBits(t *testing.T) {
	seed, b := [32]byte{9}, text(40)
	public, sig := sign.Spread(seed).Public, sign.Sign(seed, b)
	for bit := range 512 {
		other := sig
		other[bit/8] ^= 1 << (bit % 8)
		expect(t, "the signature's bit", public, b, other, api.ErrSig)
	}
	for bit := range 8 * len(b) {
		other := slices.Clone(b)
		other[bit/8] ^= 1 << (bit % 8)
		expect(t, "the text's bit", public, other, sig, api.ErrSig)
	}
	count := map[api.Errno]int{}
	for bit := range 256 {
		other, want := public, api.ErrSig
		other[bit/8] ^= 1 << (bit % 8)
		if _, err := edwards.Decode(other); err != api.OK {
			want = api.ErrPoint
		}
		expect(t, "the public bytes' bit", other, b, sig, want)
		count[want]++
	}
	if len(count) != 2 {
		t.Errorf("not each kind of answer came about: %v", count)
	}
}

// Another's public bytes, another text, a text cut or with a byte more, and another's half of a signature (P8.1).
func TestOthers(t *testing.T) {
	seed, b := [32]byte{9}, text(40)
	public, sig := sign.Spread(seed).Public, sign.Sign(seed, b)
	expect(t, "another's public bytes", sign.Spread([32]byte{10}).Public, b, sig, api.ErrSig)
	expect(t, "cut", public, b[:39], sig, api.ErrSig)
	expect(t, "a byte more", public, b[:41], sig, api.ErrSig)
	expect(t, "no text", public, nil, sig, api.ErrSig)
	expect(t, "no signature", public, b, [64]byte{}, api.ErrSig)
	for _, other := range [][64]byte{sign.Sign(seed, b[:39]), sign.Sign([32]byte{10}, b)} {
		expect(t, "another's first half", public, b, [64]byte(append(slices.Clone(other[:32]), sig[32:]...)), api.ErrSig)
		expect(t, "another's last half", public, b, [64]byte(append(slices.Clone(sig[:32]), other[32:]...)), api.ErrSig)
	}
}

// What is handed in stays as it was, its spare room too, and isn't kept (P8.3).
func TestNothingKeptOrChanged(t *testing.T) {
	seed := [32]byte{3}
	public := sign.Spread(seed).Public
	for _, size := range []int{0, 1, 63, 64, 128, 300} {
		b := text(size)
		before := slices.Clone(b[:cap(b)])
		sig := sign.Sign(seed, b)
		sign.Verify(public, b, sig)
		if !bytes.Equal(b[:cap(b)], before) {
			t.Errorf("%d bytes: changed", size)
		}
		clear(b[:cap(b)])
		if sign.Sign(seed, before[:size]) != sig || sign.Verify(public, before[:size], sig) != api.OK {
			t.Errorf("%d bytes: kept", size)
		}
	}
}

// The rest makes signatures by numbers and points of its own, as an honest signer never would.

// neutral: the neutral point's bytes.
func neutral() [32]byte { return [32]byte{1} }

func signature(first, last [32]byte) [64]byte {
	return [64]byte(append(first[:], last[:]...))
}

// tie: the number k of a signature's first half, public bytes and a text.
func tie(first, public [32]byte, text []byte) scalar.Num {
	sum := sha512.Sum512(slices.Concat(first[:], public[:], text))
	return scalar.Of(sum[:])
}

func base(n scalar.Num) edwards.Point { return edwards.Base().Times(scalar.Bytes(n)) }

// small: the n-th of the eight points that eight times are the neutral one, which is the first.
func small(t *testing.T, n int) edwards.Point {
	t.Helper()
	p, err := edwards.Decode([32]byte(ofHex(t, "26e8958fc2b227b045c3f489f2ef98f0d5dfac05d3c63339b13802886d53fc05")))
	if err != api.OK {
		t.Fatal(err)
	}
	return p.Times([32]byte{byte(n)})
}

// beyond: the order so often, and n, in 32 bytes.
func beyond(often int, n scalar.Num) [32]byte {
	order := scalar.Order()
	for range often {
		carry := uint64(0)
		for i := range n {
			n[i], carry = bits.Add64(n[i], order[i], carry)
		}
	}
	var b [32]byte
	for i := range b {
		b[i] = byte(n[i/8] >> (i % 8 * 8))
	}
	return b
}

// A number at the order and beyond isn't taken, though the points would be the same; one below is (P8.1).
func TestNumberBeyondTheOrder(t *testing.T) {
	seed, b := [32]byte{4}, text(20)
	public, sig := sign.Spread(seed).Public, sign.Sign(seed, b)
	first, s := [32]byte(sig[:32]), scalar.Of(sig[32:])
	expect(t, "as it is", public, b, signature(first, beyond(0, s)), api.OK)
	for often := 1; often < 15; often++ {
		expect(t, "beyond the order", public, b, signature(first, beyond(often, s)), api.ErrSig)
	}
	// By the neutral point as public bytes, any number is a signature's, beside its times the base.
	most := scalar.Neg(scalar.Num{1})
	expect(t, "the order but 1", neutral(), b, signature(base(most).Encode(), scalar.Bytes(most)), api.OK)
	expect(t, "nought", neutral(), b, signature(neutral(), [32]byte{}), api.OK)
	expect(t, "the order", neutral(), b, signature(neutral(), beyond(1, scalar.Num{})), api.ErrSig)
	expect(t, "the order and 1", neutral(), b, signature(edwards.Base().Encode(), beyond(1, scalar.Num{1})), api.ErrSig)
	all := scalar.Num{math.MaxUint64, math.MaxUint64, math.MaxUint64, math.MaxUint64}
	expect(t, "all bits", neutral(), b, signature(base(all).Encode(), beyond(0, all)), api.ErrSig)
}

// noPoints: bytes of each kind that are no point's.
func noPoints(t *testing.T) (all [][32]byte) {
	for _, b := range []string{
		"0200000000000000000000000000000000000000000000000000000000000000", // no x
		"0100000000000000000000000000000000000000000000000000000000000080", // x is 0, and odd
		"ecffffffffffffffffffffffffffffffffffffffffffffffffffffffffffffff", // so too
		"edffffffffffffffffffffffffffffffffffffffffffffffffffffffffffff7f", // y is the prime
		"eeffffffffffffffffffffffffffffffffffffffffffffffffffffffffffff7f", // the prime and 1
		"eeffffffffffffffffffffffffffffffffffffffffffffffffffffffffffffff",
		"ffffffffffffffffffffffffffffffffffffffffffffffffffffffffffffffff",
	} {
		all = append(all, [32]byte(ofHex(t, b)))
	}
	return all
}

// Public bytes that are no point: behind the signature's number, ahead of all else (P8.1; rule 1).
func TestPublicIsNoPoint(t *testing.T) {
	b := text(20)
	for _, public := range noPoints(t) {
		for _, c := range []struct {
			why  string
			sig  [64]byte
			want api.Errno
		}{
			{"nought", signature(neutral(), [32]byte{}), api.ErrPoint},
			{"one", signature(edwards.Base().Encode(), [32]byte{1}), api.ErrPoint},
			{"what would be one's", sign.Sign([32]byte{4}, b), api.ErrPoint},
			{"the order but 1", signature([32]byte{}, scalar.Bytes(scalar.Neg(scalar.Num{1}))), api.ErrPoint},
			{"the order", signature(neutral(), beyond(1, scalar.Num{})), api.ErrSig},
			{"the order and 1", signature(edwards.Base().Encode(), beyond(1, scalar.Num{1})), api.ErrSig},
		} {
			if got := sign.Verify(public, b, c.sig); got != c.want {
				t.Errorf("public bytes %x, %s: %v", public, c.why, got)
			}
		}
	}
}

// Small points, alone or beside a point of the base's order, may be public; k counts modulo the order ahead of being their times (P8.1).
func TestPublicWithASmallPoint(t *testing.T) {
	b, count := text(20), map[api.Errno]int{}
	for _, x := range []scalar.Num{{}, {5}, scalar.Of(text(32))} {
		for n := range 8 {
			public := base(x).Add(small(t, n)).Encode()
			for often := range 8 {
				r := scalar.Num{uint64(often) + 3}
				first := base(r).Add(small(t, often)).Encode()
				k := tie(first, public, b)
				want := api.ErrSig
				if (uint64(often)+k[0]*uint64(n))%8 == 0 {
					want = api.OK
				}
				s := scalar.Add(r, scalar.Mul(k, x))
				expect(t, "beside a small point", public, b, signature(first, scalar.Bytes(s)), want)
				count[want]++
			}
		}
	}
	if len(count) != 2 {
		t.Errorf("not each kind of answer came about: %v", count)
	}
}

// The signature's first half is compared as bytes: what isn't told in a point's own way is never one's, nor is a point with a small one beside it (P8.1).
func TestFirstHalfByBytes(t *testing.T) {
	seed, b := [32]byte{4}, text(20)
	secret := sign.Spread(seed)
	x := scalar.Of(secret.Number[:])
	made := func(first [32]byte, r scalar.Num) [64]byte {
		return signature(first, scalar.Bytes(scalar.Add(r, scalar.Mul(tie(first, secret.Public, b), x))))
	}
	expect(t, "the neutral point", secret.Public, b, made(neutral(), scalar.Num{}), api.OK)
	expect(t, "the base", secret.Public, b, made(edwards.Base().Encode(), scalar.Num{1}), api.OK)
	for _, first := range noPoints(t) {
		expect(t, "no point's bytes", secret.Public, b, made(first, scalar.Num{}), api.ErrSig)
	}
	for n := 1; n < 8; n++ {
		expect(t, "a small point", secret.Public, b, made(small(t, n).Encode(), scalar.Num{}), api.ErrSig)
		expect(t, "beside a small point", secret.Public, b, made(edwards.Base().Add(small(t, n)).Encode(), scalar.Num{1}), api.ErrSig)
	}
}
