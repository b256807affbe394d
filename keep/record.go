package keep

import (
	"custumal/api"
	"custumal/codec"
	"custumal/super"
	"custumal/wire"
)

// What a record of the common journal begins with.
const (
	isTick   = 1
	isAsked  = 2 // Create, Hold, Free
	isPut    = 3
	isDelete = 4
	isImport = 5
)

const sigSize = 64

// record is one of the common journal's: what its kind has.
type record struct {
	kind          int
	signed        super.Signed // a tick's, without the number
	request       []byte
	id            []byte
	place, number int // where the bytes of a put or an import are
	member        bool
	epoch         int
	link          [32]byte
	period, age   int
	held          bool
}

func (r record) bytes() []byte {
	w := &codec.Writer{}
	w.Byte(r.kind)
	switch r.kind {
	case isTick:
		w.Sum(r.signed.Root)
		w.Text(r.signed.Sig[:])
	case isPut:
		w.Byte(r.place)
		w.Num(r.number)
	case isDelete:
		w.Text(r.id)
		w.Flag(r.member)
		if r.member {
			w.Num(r.epoch)
			w.Sum(r.link)
		}
	case isImport:
		w.Text(r.id)
		w.Byte(r.place)
		w.Num(r.number)
		w.Num(r.period)
		w.Num(r.age)
		w.Flag(r.held)
	}
	b, _ := w.Bytes()
	return append(b, r.request...)
}

// recordOf: of its bytes; false: they are none's.
func recordOf(b []byte) (r record, right bool) {
	t := codec.Read(b)
	r.kind = t.Byte()
	right = true
	switch r.kind {
	case isTick:
		r.signed.Root = t.Sum()
		sig := t.Text(sigSize)
		right = copy(r.signed.Sig[:], sig) == sigSize
	case isAsked:
		r.request = b[1:]
		asked, err := wire.Asked(r.request)
		plain := asked.Kind == wire.Create || asked.Kind == wire.Hold || asked.Kind == wire.Free
		return r, err == api.OK && plain
	case isPut:
		r.place, r.number = t.Byte(), t.Num()
	case isDelete:
		r.id = t.Text(api.MaxId)
		if r.member = t.Flag(); r.member {
			r.epoch, r.link = t.Num(), t.Sum()
		}
	case isImport:
		r.id = t.Text(api.MaxId)
		r.place, r.number = t.Byte(), t.Num()
		r.period, r.age, r.held = t.Num(), t.Num(), t.Flag()
	default:
		right = false
	}
	return r, right && t.End() == api.OK
}
