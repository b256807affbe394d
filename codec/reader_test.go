package codec_test

import (
	"bytes"
	"math"
	"math/rand"
	"slices"
	"strings"
	"testing"

	"custumal/api"
	"custumal/codec"
)

// A part is one that can be written, and asked for: it tells whether the answer was right, or nothing.
type part struct {
	name    string
	write   func(w *codec.Writer)
	right   func(r *codec.Reader) bool
	nothing func(r *codec.Reader) bool
}

func bytePart(n int) part {
	return part{
		"byte",
		func(w *codec.Writer) { w.Byte(n) },
		func(r *codec.Reader) bool { return r.Byte() == n },
		func(r *codec.Reader) bool { return r.Byte() == 0 },
	}
}

func flagPart(yes bool) part {
	return part{
		"flag",
		func(w *codec.Writer) { w.Flag(yes) },
		func(r *codec.Reader) bool { return r.Flag() == yes },
		func(r *codec.Reader) bool { return !r.Flag() },
	}
}

func numPart(n int) part {
	return part{
		"number",
		func(w *codec.Writer) { w.Num(n) },
		func(r *codec.Reader) bool { return r.Num() == n },
		func(r *codec.Reader) bool { return r.Num() == 0 },
	}
}

func sumPart(s [32]byte) part {
	return part{
		"sum",
		func(w *codec.Writer) { w.Sum(s) },
		func(r *codec.Reader) bool { return r.Sum() == s },
		func(r *codec.Reader) bool { return r.Sum() == [32]byte{} },
	}
}

func textPart(b []byte) part {
	return part{
		"text",
		func(w *codec.Writer) { w.Text(b) },
		func(r *codec.Reader) bool { return bytes.Equal(r.Text(len(b)), b) },
		func(r *codec.Reader) bool { return len(r.Text(len(b))) == 0 },
	}
}

// somePart: one of any kind, none of noughts (so that nothing is unlike it).
func somePart(r *rand.Rand) part {
	switch r.Intn(5) {
	case 0:
		return bytePart(1 + r.Intn(255))
	case 1:
		return flagPart(true)
	case 2:
		return numPart(int(r.Uint64() | 1))
	case 3:
		s := [32]byte{31: 1}
		r.Read(s[:31])
		return sumPart(s)
	}
	b := make([]byte, 1+r.Intn(40))
	r.Read(b)
	return textPart(b)
}

// What is written is read again, part by part (P4.2).
func TestWrittenIsRead(t *testing.T) {
	r := rand.New(rand.NewSource(1))
	for range 300 {
		var w codec.Writer
		var parts []part
		for range r.Intn(30) {
			p := somePart(r)
			p.write(&w)
			parts = append(parts, p)
		}
		b, _ := w.Bytes()
		reader := codec.Read(b)
		for i, p := range parts {
			if !p.right(reader) {
				t.Fatalf("part %d, a %s, of %x", i, p.name, b)
			}
		}
		if reader.Left() != 0 || reader.End() != api.OK {
			t.Fatalf("the end of %x: %d left, error %d", b, reader.Left(), reader.End())
		}
	}
}

// The ends of each kind (P4.2).
func TestEndsAreRead(t *testing.T) {
	parts := []part{
		flagPart(true), flagPart(false), sumPart([32]byte{}), sumPart([32]byte{0: 255, 31: 128}),
		textPart(nil), textPart([]byte("a")), textPart(make([]byte, 255)), textPart(make([]byte, 256)),
		textPart(bytes.Repeat([]byte{1, 2, 3, 4, 5}, 13107)),
	}
	for n := range 256 {
		parts = append(parts, bytePart(n))
	}
	for _, n := range []int{0, 1, 255, 256, -1, -256, math.MaxInt, math.MinInt, 0x0102030405060708} {
		parts = append(parts, numPart(n))
	}
	for _, p := range parts {
		var w codec.Writer
		p.write(&w)
		b, _ := w.Bytes()
		r := codec.Read(b)
		if !p.right(r) || r.Left() != 0 || r.End() != api.OK {
			t.Errorf("a %s of %d bytes isn't read", p.name, len(b))
		}
	}
}

// Of too few bytes nothing is taken, wherever they end; behind that all is nothing, and the error stays (P4.1).
func TestTooFewBytes(t *testing.T) {
	sum := [32]byte{0: 1, 31: 1}
	all := []part{bytePart(5), flagPart(true), numPart(-1), sumPart(sum), textPart([]byte("some text"))}
	for _, p := range all {
		var w codec.Writer
		p.write(&w)
		b, _ := w.Bytes()
		for n := range b {
			r := codec.Read(b[:n])
			if !p.nothing(r) || r.Left() != n || r.End() != api.ErrShort {
				t.Errorf("a %s of %d bytes of %d: %d left, error %d", p.name, n, len(b), r.Left(), r.End())
			}
			nothingMore(t, r, n, api.ErrShort)
		}
	}
}

// nothingMore: behind an error all answers are nothing, and nothing is taken.
func nothingMore(t *testing.T, r *codec.Reader, left int, e api.Errno) {
	t.Helper()
	for range 2 {
		if r.Byte() != 0 || r.Flag() || r.Num() != 0 || r.Sum() != [32]byte{} || len(r.Text(math.MaxInt)) != 0 || len(r.Text(0)) != 0 {
			t.Error("something behind an error")
		}
		if r.Left() != left || r.End() != e {
			t.Errorf("behind an error: %d left, not %d; error %d, not %d", r.Left(), left, r.End(), e)
		}
	}
}

// Enough bytes stand behind, but the first error stays, whichever it is (P4.1).
func TestFirstErrorStays(t *testing.T) {
	ones := bytes.Repeat([]byte{1}, 400)
	for name, c := range map[string]struct {
		bytes []byte
		read  func(r *codec.Reader)
		left  int
		err   api.Errno
	}{
		"flag":       {append([]byte{2}, ones...), func(r *codec.Reader) { r.Flag() }, 400, api.ErrForm},
		"short text": {append([]byte{255, 255}, ones...), func(r *codec.Reader) { r.Text(65535) }, 402, api.ErrShort},
		"big text":   {append([]byte{0, 3}, ones...), func(r *codec.Reader) { r.Text(2) }, 402, api.ErrBig},
	} {
		r := codec.Read(c.bytes)
		c.read(r)
		if r.Left() != c.left || r.End() != c.err {
			t.Errorf("%s: %d left, error %d", name, r.Left(), r.End())
		}
		nothingMore(t, r, c.left, c.err)
	}
}

// A flag is 1 or 0, and nothing else; it is taken all the same (P4.1).
func TestFlags(t *testing.T) {
	for n := range 256 {
		r := codec.Read([]byte{byte(n), 1})
		yes := r.Flag()
		if yes != (n == 1) || r.Left() != 1 {
			t.Errorf("%d: %v, %d left", n, yes, r.Left())
		}
		want := api.ErrForm
		if n < 2 {
			want = api.ErrTail
		}
		if r.End() != want {
			t.Errorf("%d: error %d", n, r.End())
		}
	}
	if r := codec.Read(nil); r.Flag() || r.End() != api.ErrShort {
		t.Error("of no byte")
	}
}

// A text's count is looked at ahead of how many bytes there are, and nothing of a longer one is taken (P4.1).
func TestTextsAndMost(t *testing.T) {
	for _, c := range []struct {
		bytes string
		most  int
		text  string
		left  int
		err   api.Errno
	}{
		{"\x00\x02ab", 2, "ab", 0, api.OK},
		{"\x00\x02ab", 3, "ab", 0, api.OK},
		{"\x00\x02abc", math.MaxInt, "ab", 1, api.ErrTail},
		{"\x00\x02ab", 1, "", 4, api.ErrBig},
		{"\x00\x02ab", 0, "", 4, api.ErrBig},
		{"\x00\x02ab", -1, "", 4, api.ErrBig},
		{"\x00\x03a", 2, "", 3, api.ErrBig},
		{"\x00\x03", 2, "", 2, api.ErrBig},
		{"\x00\x03ab", 3, "", 4, api.ErrShort},
		{"\x00\x00", 0, "", 0, api.OK},
		{"\x00\x00", -1, "", 2, api.ErrBig},
		{"\x00\x00", math.MinInt, "", 2, api.ErrBig},
		{"\x00", 0, "", 1, api.ErrShort},
		{"\x00", -1, "", 1, api.ErrShort},
		{"", 5, "", 0, api.ErrShort},
		{"\x01\x00" + strings.Repeat("x", 256), 256, strings.Repeat("x", 256), 0, api.OK},
		{"\x01\x00" + strings.Repeat("x", 256), 255, "", 258, api.ErrBig},
		{"\xff\xff" + strings.Repeat("y", 65535), 65535, strings.Repeat("y", 65535), 0, api.OK},
		{"\xff\xff" + strings.Repeat("y", 65535), 65534, "", 65537, api.ErrBig},
		{"\xff\xff" + strings.Repeat("y", 65534), 65535, "", 65536, api.ErrShort},
	} {
		r := codec.Read([]byte(c.bytes))
		text := r.Text(c.most)
		if string(text) != c.text || r.Left() != c.left || r.End() != c.err {
			t.Errorf("%.10q of most %d: %.10q, %d left, error %d", c.bytes, c.most, text, r.Left(), r.End())
		}
	}
}

// Left and End, as long as there is no error (P4.1).
func TestLeftAndEnd(t *testing.T) {
	r := codec.Read([]byte("abc"))
	for left := 3; left >= 0; left-- {
		want := api.ErrTail
		if left == 0 {
			want = api.OK
		}
		if r.Left() != left || r.End() != want || r.End() != want {
			t.Errorf("%d left, error %d", r.Left(), r.End())
		}
		if left > 0 && r.Byte() != int("abc"[3-left]) {
			t.Error("another byte")
		}
	}
	for _, r := range []*codec.Reader{codec.Read(nil), codec.Read([]byte{}), {}} {
		if r == nil || r.Left() != 0 || r.End() != api.OK {
			t.Error("of nothing")
		}
		nothingOf(t, r)
		if r.Left() != 0 || r.End() != api.ErrShort {
			t.Error("of nothing, read")
		}
	}
}

func nothingOf(t *testing.T, r *codec.Reader) {
	t.Helper()
	if r.Byte() != 0 || r.Flag() || r.Num() != 0 || r.Sum() != [32]byte{} || len(r.Text(9)) != 0 {
		t.Error("something of nothing")
	}
}

// A nil reader (P1, P4.1).
func TestNilReader(t *testing.T) {
	var r *codec.Reader
	for range 2 {
		nothingOf(t, r)
		if len(r.Text(-1)) != 0 || r.Left() != 0 || r.End() != api.ErrArg {
			t.Error("nil")
		}
	}
}

// All bytes are answered for, and what is taken is what there was (P1, P4.1).
func TestAllBytes(t *testing.T) {
	random := rand.New(rand.NewSource(2))
	for range 3000 {
		b := make([]byte, random.Intn(80))
		for i := range b {
			b[i] = byte(random.Intn(4))
		}
		r := codec.Read(b)
		for range 12 {
			ahead, e := r.Left(), r.End()
			switch random.Intn(5) {
			case 0:
				r.Byte()
			case 1:
				r.Flag()
			case 2:
				r.Num()
			case 3:
				r.Sum()
			case 4:
				r.Text(random.Intn(600) - 1)
			}
			if r.Left() > ahead || e != api.OK && e != api.ErrTail && (r.End() != e || r.Left() != ahead) {
				t.Fatalf("%x: %d left, then %d; error %d, then %d", b, ahead, r.Left(), e, r.End())
			}
		}
	}
}

// Bytes that are handed in are not changed and not kept; texts are new memory, their spare room too (P4.3).
func TestReaderSharesNothing(t *testing.T) {
	b := append(make([]byte, 0, 40), "\x00\x02ab\x00\x02cd\x07"...)
	all := slices.Clone(b[:cap(b)])
	r := codec.Read(b)
	first := r.Text(2)
	if !bytes.Equal(b[:cap(b)], all) {
		t.Errorf("changed: %q", b[:cap(b)])
	}
	clear(b[:cap(b)])
	if string(first) != "ab" {
		t.Errorf("an answer shares memory with what was handed in: %q", first)
	}
	clear(first[:cap(first)])
	second := r.Text(2)
	if string(second) != "cd" {
		t.Errorf("kept, or shared with an answer: %q", second)
	}
	clear(second[:cap(second)])
	if r.Byte() != 7 || r.End() != api.OK {
		t.Error("shared with the second answer")
	}
	if !bytes.Equal(b[:cap(b)], make([]byte, cap(b))) {
		t.Error("changed later")
	}
}
