// Package rules tests what the document and the language's rules ask of all layers alike.
package rules_test

import (
	"testing"

	"custumal/api"
)

// The errors' numbers, as DOC.md lists them (Words).
func TestErrorNumbers(t *testing.T) {
	for number, e := range []api.Errno{
		api.OK, api.ErrArg, api.ErrForm, api.ErrShort, api.ErrTail, api.ErrBig, api.ErrQuota, api.ErrFull, api.ErrClock,
		api.ErrGone, api.ErrMiss, api.ErrThere, api.ErrHeld, api.ErrDown, api.ErrBundle, api.ErrPoint, api.ErrSig,
		api.ErrProof, api.ErrFalse,
	} {
		if int(e) != number {
			t.Errorf("error %d has the number %d", number, e)
		}
	}
}

// The limits, as DOC.md lists them (Words).
func TestLimits(t *testing.T) {
	for _, c := range []struct {
		name      string
		got, want int
	}{
		{"MaxId", api.MaxId, 16},
		{"MaxLabel", api.MaxLabel, 32},
		{"MaxValue", api.MaxValue, 64},
		{"MaxTenants", api.MaxTenants, 8},
		{"MaxLabels", api.MaxLabels, 64},
		{"MaxPending", api.MaxPending, 16},
		{"MaxEpochs", api.MaxEpochs, 32},
		{"MaxPeriod", api.MaxPeriod, 1000},
		{"MaxText", api.MaxText, 65536},
		{"Block", api.Block, 128},
		{"MaxBlocks", api.MaxBlocks, 8192},
	} {
		if c.got != c.want {
			t.Errorf("%s is %d", c.name, c.got)
		}
	}
}
