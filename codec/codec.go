// Package codec is layer 4: numbers and texts as bytes, in one way: see shared/doc/04-codec.md.
package codec

import (
	"bytes"

	"custumal/api"
)

const (
	numSize   = 8
	sumSize   = 32
	countSize = 2     // of a text's count of bytes
	maxText   = 65535 // the most that a count can say
)

// Writer puts parts behind each other; its zero value has none.
type Writer struct {
	made []byte
	err  api.Errno
}

// Byte: a number from 0 to 255.
func (w *Writer) Byte(n int) {
	if n < 0 || n > 255 {
		w.refuse()
		return
	}
	w.add(byte(n))
}

// Flag: 1 for yes, 0 for no.
func (w *Writer) Flag(yes bool) {
	if yes {
		w.add(1)
	} else {
		w.add(0)
	}
}

// Num: 8 bytes, the highest first.
func (w *Writer) Num(n int) {
	for shift := 8 * (numSize - 1); shift >= 0; shift -= 8 {
		w.add(byte(uint64(n) >> shift))
	}
}

// Sum: its 32 bytes.
func (w *Writer) Sum(b [32]byte) { w.add(b[:]...) }

// Text: its count of bytes, and these.
func (w *Writer) Text(b []byte) {
	if len(b) > maxText {
		w.refuse()
		return
	}
	w.add(byte(len(b)>>8), byte(len(b)))
	w.add(b...)
}

// Bytes: all of them; was each part one?
func (w *Writer) Bytes() ([]byte, api.Errno) {
	if w == nil {
		return nil, api.ErrArg
	}
	return bytes.Clone(w.made), w.err
}

func (w *Writer) add(b ...byte) {
	if w != nil {
		w.made = append(w.made, b...)
	}
}

func (w *Writer) refuse() {
	if w != nil {
		w.err = api.ErrBig
	}
}

// Reader takes parts.
type Reader struct {
	left []byte
	err  api.Errno
}

// Read: of a copy of the bytes.
func Read(b []byte) *Reader { return &Reader{left: bytes.Clone(b)} }

// Byte: the next one.
func (r *Reader) Byte() int {
	if !r.has(1) {
		return 0
	}
	return int(r.take(1)[0])
}

// Flag: the next byte, which must be 1 or 0.
func (r *Reader) Flag() bool {
	n := r.Byte()
	if n > 1 {
		r.err = api.ErrForm
	}
	return n == 1
}

// Num: of the next 8 bytes.
func (r *Reader) Num() int {
	if !r.has(numSize) {
		return 0
	}
	var n uint64
	for _, b := range r.take(numSize) {
		n = n<<8 | uint64(b)
	}
	return int(n)
}

// Sum: the next 32 bytes.
func (r *Reader) Sum() [32]byte {
	if !r.has(sumSize) {
		return [32]byte{}
	}
	return [32]byte(r.take(sumSize))
}

// Text: the next one, if it has no more than so many bytes.
func (r *Reader) Text(most int) []byte {
	if !r.has(countSize) {
		return nil
	}
	count := int(r.left[0])<<8 | int(r.left[1])
	if count > most {
		r.err = api.ErrBig
		return nil
	}
	if !r.has(countSize + count) {
		return nil
	}
	// A copy: the reader's own bytes are still to be read.
	return bytes.Clone(r.take(countSize + count)[countSize:])
}

// Left: how many bytes are left.
func (r *Reader) Left() int {
	if r == nil {
		return 0
	}
	return len(r.left)
}

// End: was all right, and is all taken?
func (r *Reader) End() api.Errno {
	switch {
	case r == nil:
		return api.ErrArg
	case r.err != api.OK:
		return r.err
	case len(r.left) > 0:
		return api.ErrTail
	}
	return api.OK
}

// has: can so many bytes be taken? That there are too few is the reader's error.
func (r *Reader) has(n int) bool {
	if r == nil || r.err != api.OK {
		return false
	}
	if len(r.left) < n {
		r.err = api.ErrShort
		return false
	}
	return true
}

// take: the next bytes, of which has told that they are there.
func (r *Reader) take(n int) []byte {
	b := r.left[:n]
	r.left = r.left[n:]
	return b
}
