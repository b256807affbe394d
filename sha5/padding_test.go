package sha5

import (
	"encoding/binary"
	"math"
	"testing"
)

// The count of bits has 16 bytes, though no text in reach needs more than the last five (P2.1).
func TestPadding(t *testing.T) {
	for _, count := range []int{0, 1, 111, 112, 127, 128, 1 << 31, 1<<61 - 1, 1 << 61, 5<<61/4 + 7, math.MaxInt} {
		pad, size := padding(count)
		if pad[0] != 0x80 || (uint64(count)+uint64(size))%blockSize != 0 || size < 17 || size > blockSize+16 {
			t.Errorf("%d: begins with %x, %d bytes", count, pad[0], size)
		}
		high, low := binary.BigEndian.Uint64(pad[size-16:]), binary.BigEndian.Uint64(pad[size-8:])
		if high != uint64(count)/(1<<61) || low != uint64(count)*8 {
			t.Errorf("%d: counted as %d, %d", count, high, low)
		}
		for _, b := range pad[1 : size-16] {
			if b != 0 {
				t.Errorf("%d: not filled with noughts", count)
			}
		}
	}
}
