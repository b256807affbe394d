package codec_test

import (
	"bytes"
	"encoding/hex"
	"math"
	"strings"
	"testing"

	"custumal/api"
	"custumal/codec"
)

// made: the bytes that a writer makes, base 16, and its error.
func made(write func(w *codec.Writer)) (string, api.Errno) {
	var w codec.Writer
	write(&w)
	b, e := w.Bytes()
	return hex.EncodeToString(b), e
}

// Each kind of part, ordinary ones and the ends (P4.1).
func TestWrittenParts(t *testing.T) {
	sum := [32]byte{0: 1, 31: 0xfe}
	for _, c := range []struct {
		name  string
		write func(w *codec.Writer)
		want  string
		err   api.Errno
	}{
		{"nothing", func(w *codec.Writer) {}, "", api.OK},
		{"byte 0", func(w *codec.Writer) { w.Byte(0) }, "00", api.OK},
		{"byte 5", func(w *codec.Writer) { w.Byte(5) }, "05", api.OK},
		{"byte 255", func(w *codec.Writer) { w.Byte(255) }, "ff", api.OK},
		{"byte 256", func(w *codec.Writer) { w.Byte(256) }, "", api.ErrBig},
		{"byte -1", func(w *codec.Writer) { w.Byte(-1) }, "", api.ErrBig},
		{"greatest byte", func(w *codec.Writer) { w.Byte(math.MaxInt) }, "", api.ErrBig},
		{"least byte", func(w *codec.Writer) { w.Byte(math.MinInt) }, "", api.ErrBig},
		{"yes", func(w *codec.Writer) { w.Flag(true) }, "01", api.OK},
		{"no", func(w *codec.Writer) { w.Flag(false) }, "00", api.OK},
		{"0", func(w *codec.Writer) { w.Num(0) }, "0000000000000000", api.OK},
		{"number", func(w *codec.Writer) { w.Num(0x0102030405060708) }, "0102030405060708", api.OK},
		{"-1", func(w *codec.Writer) { w.Num(-1) }, "ffffffffffffffff", api.OK},
		{"greatest", func(w *codec.Writer) { w.Num(math.MaxInt) }, "7fffffffffffffff", api.OK},
		{"least", func(w *codec.Writer) { w.Num(math.MinInt) }, "8000000000000000", api.OK},
		{"sum", func(w *codec.Writer) { w.Sum(sum) }, "01" + strings.Repeat("00", 30) + "fe", api.OK},
		{"text", func(w *codec.Writer) { w.Text([]byte("ab")) }, "00026162", api.OK},
		{"nil text", func(w *codec.Writer) { w.Text(nil) }, "0000", api.OK},
		{"empty text", func(w *codec.Writer) { w.Text([]byte{}) }, "0000", api.OK},
		{"258 bytes", func(w *codec.Writer) { w.Text(make([]byte, 258)) }, "0102" + strings.Repeat("00", 258), api.OK},
		{"65535 bytes", func(w *codec.Writer) { w.Text(make([]byte, 65535)) }, "ffff" + strings.Repeat("00", 65535), api.OK},
		{"65536 bytes", func(w *codec.Writer) { w.Text(make([]byte, 65536)) }, "", api.ErrBig},
		{"65537 bytes", func(w *codec.Writer) { w.Text(make([]byte, 65537)) }, "", api.ErrBig},
		{"the example", func(w *codec.Writer) { w.Byte(5); w.Text([]byte("ab")) }, "0500026162", api.OK},
	} {
		if got, e := made(c.write); got != c.want || e != c.err {
			t.Errorf("%s: %.40s (%d), error %d", c.name, got, len(got)/2, e)
		}
	}
}

// A part that is none is put as nothing; all ahead of it and behind it is there, and the error stays (P4.1).
func TestPartsThatAreNone(t *testing.T) {
	for name, wrong := range map[string]func(w *codec.Writer){
		"byte": func(w *codec.Writer) { w.Byte(256) },
		"text": func(w *codec.Writer) { w.Text(make([]byte, 65536)) },
	} {
		got, e := made(func(w *codec.Writer) {
			w.Byte(1)
			wrong(w)
			wrong(w)
			w.Text([]byte("a"))
			if _, e := w.Bytes(); e != api.ErrBig {
				t.Errorf("%s: error %d", name, e)
			}
			w.Flag(true)
		})
		if got != "0100016101" || e != api.ErrBig {
			t.Errorf("%s: %s, error %d", name, got, e)
		}
	}
}

// A writer goes on behind Bytes.
func TestWriterGoesOn(t *testing.T) {
	var w codec.Writer
	var want []byte
	for n := range 300 {
		w.Byte(n % 256)
		want = append(want, byte(n))
		for range 2 {
			if b, e := w.Bytes(); !bytes.Equal(b, want) || e != api.OK {
				t.Fatalf("behind %d bytes: %x, error %d", n, b, e)
			}
		}
	}
}

// A nil writer (P1, P4.1).
func TestNilWriter(t *testing.T) {
	var w *codec.Writer
	w.Byte(1)
	w.Byte(-1)
	w.Flag(true)
	w.Num(1)
	w.Sum([32]byte{1})
	w.Text(nil)
	w.Text(make([]byte, 65536))
	if b, e := w.Bytes(); len(b) != 0 || e != api.ErrArg {
		t.Errorf("%x, error %d", b, e)
	}
}

// A text is not kept or changed, its spare room neither; Bytes is new memory, its spare room too (P4.3).
func TestWriterSharesNothing(t *testing.T) {
	text := []byte("text and more")
	var w codec.Writer
	w.Text(text[:4])
	if string(text) != "text and more" {
		t.Errorf("changed: %q", text)
	}
	copy(text, "lost")
	a, _ := w.Bytes()
	if string(a) != "\x00\x04text" {
		t.Errorf("kept: %q", a)
	}
	w.Byte(7)
	b, _ := w.Bytes()
	for _, list := range [][]byte{a, b} {
		list = list[:cap(list)]
		for i := range list {
			list[i] = 0xee
		}
	}
	w.Byte(8)
	c, _ := w.Bytes()
	if string(c) != "\x00\x04text\x07\x08" {
		t.Errorf("shared with an answer: %q", c)
	}
	for _, list := range [][]byte{a, b} {
		if bytes.Count(list[:cap(list)], []byte{0xee}) != cap(list) {
			t.Errorf("an answer is changed: %x", list[:cap(list)])
		}
	}
}
