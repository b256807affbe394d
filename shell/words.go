package shell

import (
	"strings"

	"custumal/wire"
)

// The most that a line, and a number, have.
const (
	maxWords  = 6
	maxDigits = 9
)

// requestOf: the request of a line, without a tenant's keys; false: the line is none's.
func requestOf(line string) (r wire.Request, right bool) {
	w := &words{left: strings.SplitN(line, " ", maxWords+1)}
	switch string(w.word()) {
	case "create":
		r.Kind, r.Id = wire.Create, w.word()
		r.Limits.Labels, r.Limits.Pending, r.Limits.Epochs, r.Period = w.number(), w.number(), w.number(), w.number()
	case "hold":
		r.Kind, r.Id = wire.Hold, w.word()
	case "free":
		r.Kind, r.Id = wire.Free, w.word()
	case "delete":
		r.Kind, r.Id = wire.Delete, w.word()
	case "put":
		r.Kind, r.Id, r.Label, r.Value = wire.Put, w.word(), w.word(), w.word()
	case "look":
		r.Kind, r.Id, r.Label, r.From = wire.Lookup, w.word(), w.word(), w.numberOr(-1)
	case "stand":
		r.Kind, r.Id = wire.Standing, w.word()
	case "history":
		r.Kind, r.Id, r.Label = wire.History, w.word(), w.word()
	case "audit":
		r.Kind, r.Id, r.From, r.To = wire.Audit, w.word(), w.number(), w.number()
	case "growth":
		r.Kind, r.From, r.To = wire.Growth, w.number(), w.number()
	default:
		return wire.Request{}, false
	}
	if !w.ended() {
		return wire.Request{}, false
	}
	return r, true
}

// words is what is left of a line; wrong: one was taken that isn't there, or isn't what it must be.
type words struct {
	left  []string
	wrong bool
}

func (w *words) word() []byte {
	if len(w.left) == 0 || w.left[0] == "" {
		w.wrong = true
		return nil
	}
	next := w.left[0]
	w.left = w.left[1:]
	return []byte(next)
}

func (w *words) number() int {
	n, right := numberOf(w.word())
	w.wrong = w.wrong || !right
	return n
}

// numberOr: the next word; or, behind the last one, what stands for it.
func (w *words) numberOr(n int) int {
	if len(w.left) == 0 {
		return n
	}
	return w.number()
}

// ended: was each word what it must be, and is none left?
func (w *words) ended() bool { return !w.wrong && len(w.left) == 0 }

func numberOf(digits []byte) (n int, right bool) {
	if len(digits) < 1 || len(digits) > maxDigits || digits[0] == '0' && len(digits) > 1 {
		return 0, false
	}
	for _, c := range digits {
		if c < '0' || c > '9' {
			return 0, false
		}
		n = 10*n + int(c-'0')
	}
	return n, true
}
