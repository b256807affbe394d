package rules_test

import (
	"math"
	"testing"

	"custumal/api"
	"custumal/codec"
	"custumal/hmac"
	"custumal/sha2"
	"custumal/sha5"
)

// The calls of layers 1 to 4 have just these signatures; what doesn't have them doesn't build.
var (
	_ func(...[]byte) [32]byte         = sha2.Sum
	_ func() *sha2.Hash                = sha2.New
	_ func(*sha2.Hash, []byte)         = (*sha2.Hash).Write
	_ func(*sha2.Hash) [32]byte        = (*sha2.Hash).Sum
	_ func(*sha2.Hash) int             = (*sha2.Hash).Len
	_ func(*sha2.Hash) *sha2.Hash      = (*sha2.Hash).Fork
	_ func(...[]byte) [64]byte         = sha5.Sum
	_ func([]byte, ...[]byte) [32]byte = hmac.Of

	_ func([32]byte, string, int) [32]byte = hmac.Key
	_ func(a, b []byte) bool               = hmac.Same

	_ func(*codec.Writer, int)                = (*codec.Writer).Byte
	_ func(*codec.Writer, bool)               = (*codec.Writer).Flag
	_ func(*codec.Writer, int)                = (*codec.Writer).Num
	_ func(*codec.Writer, [32]byte)           = (*codec.Writer).Sum
	_ func(*codec.Writer, []byte)             = (*codec.Writer).Text
	_ func(*codec.Writer) ([]byte, api.Errno) = (*codec.Writer).Bytes
	_ func([]byte) *codec.Reader              = codec.Read
	_ func(*codec.Reader) int                 = (*codec.Reader).Byte
	_ func(*codec.Reader) bool                = (*codec.Reader).Flag
	_ func(*codec.Reader) int                 = (*codec.Reader).Num
	_ func(*codec.Reader) [32]byte            = (*codec.Reader).Sum
	_ func(*codec.Reader, int) []byte         = (*codec.Reader).Text
	_ func(*codec.Reader) int                 = (*codec.Reader).Left
	_ func(*codec.Reader) api.Errno           = (*codec.Reader).End
)

// Each call of layers 1 to 4 ends without a panic at nil objects, zero values, nil and empty lists, and numbers far out (P1).
func TestNoCallPanics(t *testing.T) {
	texts := [][]byte{nil, {}, {0}, {2}, {255, 255}, make([]byte, 65535), make([]byte, 65536)}
	numbers := []int{math.MinInt, -1, 0, 1, 255, 256, 65535, 65536, math.MaxInt}
	var noHash *sha2.Hash
	var noWriter *codec.Writer
	var noReader *codec.Reader
	for _, text := range texts {
		sha2.Sum(text, nil, text)
		sha5.Sum(text, nil, text)
		for _, h := range []*sha2.Hash{noHash, {}, sha2.New(), sha2.New().Fork(), noHash.Fork()} {
			h.Write(text)
			h.Sum()
			h.Len()
			h.Fork().Write(text)
		}
		for _, other := range texts {
			hmac.Of(text, other, nil)
			hmac.Same(text, other)
		}
		for _, n := range numbers {
			hmac.Key([32]byte{}, string(text), n)
			for _, w := range []*codec.Writer{noWriter, {}} {
				w.Byte(n)
				w.Num(n)
				w.Text(text)
				w.Bytes()
			}
			for _, r := range []*codec.Reader{noReader, {}, codec.Read(text)} {
				r.Text(n)
				r.Byte()
				r.Flag()
				r.Num()
				r.Sum()
				r.Left()
				r.End()
			}
		}
	}
}

// The same calls tell the same, whatever was called between (rule 5).
func TestAnswersHangOnArgumentsAlone(t *testing.T) {
	tell := func() (all [][]byte) {
		a, b, c := sha2.Sum([]byte("a")), sha5.Sum([]byte("a")), hmac.Of([]byte("k"), []byte("a"))
		var w codec.Writer
		w.Text([]byte("a"))
		d, _ := w.Bytes()
		return append(all, a[:], b[:], c[:], d)
	}
	first := tell()
	TestNoCallPanics(t)
	for i, b := range tell() {
		if string(b) != string(first[i]) {
			t.Errorf("answer %d is another one", i)
		}
	}
}
