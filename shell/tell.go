package shell

import (
	"strconv"
	"strings"

	"custumal/api"
	"custumal/direct"
	"custumal/verify"
	"custumal/wire"
)

// ask: what comes of a request, that goes by its bytes.
func (s *shell) ask(r wire.Request) string {
	if r.Kind == wire.Create {
		r.Keys = direct.Keys{Vrf: s.key(r.Id, 1), Bind: s.key(r.Id, 2)}
	}
	b, err := wire.Ask(r)
	if err != api.OK {
		return numbered("error", err)
	}
	a, err := wire.Told(s.store.Do(b))
	if err == api.OK {
		err = a.Err
	}
	if err != api.OK {
		return numbered("error", err)
	}
	if err := s.check(r, a); err != api.OK {
		return numbered("lie", err)
	}
	return lineOf(r.Kind, a)
}

// check: does a look, or how a tenant stands, show what it says? Of other kinds nothing is shown.
func (s *shell) check(r wire.Request, a wire.Answer) (err api.Errno) {
	switch r.Kind {
	case wire.Lookup:
		_, err = verify.Look(s.public, r.Id, r.Label, a)
	case wire.Standing:
		_, err = verify.Stand(s.public, r.Id, a)
	}
	return err
}

// lineOf: what is told of an answer of that kind, without an error.
func lineOf(kind int, a wire.Answer) string {
	switch kind {
	case wire.Lookup:
		return lookLine(a.Found)
	case wire.Standing:
		if a.Member.Gone {
			return "gone"
		}
		return "live at " + strconv.Itoa(a.Member.Epoch)
	case wire.History:
		return historyLine(a.Entries)
	case wire.Audit:
		return strconv.Itoa(len(a.Marks)) + " epochs"
	case wire.Growth:
		return strconv.Itoa(len(a.Sums)) + " sums"
	}
	return okLine
}

func lookLine(f direct.Found) string {
	at := " at " + strconv.Itoa(f.Epoch)
	if !f.Present {
		return "absent" + at
	}
	return string(f.Value) + " version " + strconv.Itoa(f.Version) + at
}

func historyLine(l []direct.Entry) string {
	var all []string
	for _, e := range l {
		all = append(all, strconv.Itoa(e.Epoch)+":"+string(e.Value))
	}
	return strings.Join(all, " ")
}
