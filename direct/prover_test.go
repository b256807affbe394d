package direct

import (
	"testing"

	"custumal/api"
	"custumal/vrf"
)

// noPoint: no label has a point.
func noPoint([32]byte, []byte) ([vrf.Size]byte, api.Errno) { return [vrf.Size]byte{}, api.ErrPoint }

func made(t *testing.T) *Directory {
	t.Helper()
	d, err := New([]byte("tenant"), Keys{}, Limits{Labels: 2, Pending: 2, Epochs: 2})
	if err != api.OK {
		t.Fatal(err)
	}
	return d
}

// A label without a proof isn't put, and changes nothing; that is looked for behind all else (P19.1).
func TestPutWithoutAProof(t *testing.T) {
	d := made(t)
	long := make([]byte, 65)
	for _, c := range []struct {
		label, value []byte
		want         api.Errno
	}{{nil, nil, api.ErrArg}, {long[:33], nil, api.ErrArg}, {long[:1], long, api.ErrArg}, {long[:1], nil, api.ErrPoint}, {long[:32], long[:64], api.ErrPoint}} {
		if err := d.put(c.label, c.value, noPoint); err != c.want {
			t.Errorf("%d and %d bytes: %v", len(c.label), len(c.value), err)
		}
	}
	if d.Labels() != 0 || d.Waiting() != 0 {
		t.Errorf("%d labels, %d wait", d.Labels(), d.Waiting())
	}
	d.Put([]byte("a"), nil)
	d.Put([]byte("b"), nil)
	if err := d.put([]byte("c"), nil, noPoint); err != api.ErrQuota {
		t.Errorf("where two puts wait: %v", err)
	}
	d.Seal()
	if err := d.put([]byte("c"), nil, noPoint); err != api.ErrQuota {
		t.Errorf("where two labels are: %v", err)
	}
}

// A look for a label without a proof tells nothing; that is looked for behind all else (P19.1).
func TestLookupWithoutAProof(t *testing.T) {
	d := made(t)
	for _, c := range []struct {
		label string
		epoch int
		want  api.Errno
	}{{"", 0, api.ErrArg}, {"", 5, api.ErrArg}, {"a", 1, api.ErrMiss}, {"a", -2, api.ErrMiss}, {"a", 0, api.ErrPoint}, {"a", -1, api.ErrPoint}} {
		f, err := d.lookup([]byte(c.label), c.epoch, noPoint)
		if err != c.want || f.Index != [32]byte{} || f.Link != [32]byte{} || f.Root != [32]byte{} || f.Epoch != 0 {
			t.Errorf("%q at %d: %+v, %v", c.label, c.epoch, f, err)
		}
	}
}

// The proof is made by the key of indices, of the label (P19.1).
func TestProverIsAskedForTheLabel(t *testing.T) {
	d := made(t)
	d.keys = Keys{Vrf: [32]byte{1}, Bind: [32]byte{2}}
	var asked []string
	prove := func(seed [32]byte, label []byte) ([vrf.Size]byte, api.Errno) {
		if seed != d.keys.Vrf {
			t.Errorf("by %x", seed)
		}
		asked = append(asked, string(label))
		return vrf.Prove(seed, label)
	}
	d.put([]byte("a"), nil, prove)
	d.lookup([]byte("b"), 0, prove)
	if len(asked) != 2 || asked[0] != "a" || asked[1] != "b" {
		t.Errorf("asked for %q", asked)
	}
}
