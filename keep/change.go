package keep

import (
	"custumal/api"
	"custumal/bundle"
	"custumal/journal"
	"custumal/wire"
)

func changes(kind int) bool {
	switch kind {
	case wire.Create, wire.Hold, wire.Free, wire.Delete, wire.Put, wire.Import:
		return true
	}
	return false
}

// hasRoom: have the journals room for what a request of so many bytes would leave in them?
func (s *Store) hasRoom(r wire.Request, size int) bool {
	if s.Room() == 0 {
		return false
	}
	need := journal.Blocks(size)
	switch r.Kind {
	case wire.Put:
		at, err := s.host.Place(r.Id)
		return err != api.OK || need <= s.own[at].Room() // of one that isn't there the host tells
	case wire.Import:
		_, each, _ := s.extents.Area(0)
		return need > 0 && need <= each // more bytes than a record may have need no block
	}
	return true
}

// change: the host's answer; what it has done is in the journals then.
func (s *Store) change(r wire.Request, b []byte) wire.Answer {
	at, _ := s.host.Place(r.Id) // behind a Delete nobody knows it
	a := s.host.Serve(r)
	if a.Err != api.OK {
		return a
	}
	var err api.Errno
	switch r.Kind {
	case wire.Put:
		err = s.keep(record{kind: isPut, place: at}, b)
	case wire.Import:
		err = s.keep(s.brought(r.Bundle), b)
	case wire.Delete:
		if err = s.note(s.left(r.Id)); err == api.OK {
			err = s.clear(at)
		}
	default:
		err = s.note(record{kind: isAsked, request: b})
	}
	if err != api.OK {
		return wire.Answer{Kind: r.Kind, Err: err}
	}
	return a
}

// keep: a request's bytes in the journal of the tenant at the record's place, then the record, that says where they are, in the common one.
func (s *Store) keep(r record, b []byte) api.Errno {
	r.number = s.own[r.place].Len()
	if err := s.meet(s.own[r.place].Append(b)); err != api.OK {
		return err
	}
	return s.note(r)
}

// note: a record in the common journal.
func (s *Store) note(r record) api.Errno {
	return s.meet(s.common.Append(r.bytes()))
}

// clear: a place's extent is of noughts, and its journal a new one.
func (s *Store) clear(at int) api.Errno {
	if err := s.meet(s.extents.Zero(at)); err != api.OK {
		return err
	}
	own, _, err := s.open(at)
	s.own[at] = own
	return s.meet(err)
}

// meet: an error of the disk's; that it is down isn't forgotten.
func (s *Store) meet(err api.Errno) api.Errno {
	if err != api.OK {
		s.down = true
	}
	return err
}

// brought: the record of the tenant that came of a bundle, but for where its bytes are.
func (s *Store) brought(b []byte) record {
	p, _ := bundle.Unpack(b)
	id := p.Directory.Id()
	at, _ := s.host.Place(id)
	return record{kind: isImport, id: id, place: at, period: p.Period, age: p.Age, held: p.Held}
}

// left: the record of one that was deleted; its puts go, and so how it stood under the last super-root is kept here.
func (s *Store) left(id []byte) record {
	r := record{kind: isDelete, id: id}
	stood := s.host.Serve(wire.Request{Kind: wire.Standing, Id: id})
	if r.member = stood.Err == api.OK; r.member {
		r.epoch, r.link = stood.Member.Epoch, stood.Member.Link
	}
	return r
}
