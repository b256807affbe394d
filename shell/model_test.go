package shell_test

import (
	"fmt"
	"math/rand"
	"regexp"
	"slices"
	"strconv"
	"strings"
	"testing"

	"custumal/api"
	"custumal/direct"
	"custumal/hmac"
	"custumal/host"
	"custumal/sha2"
	"custumal/wire"
)

// forms: what stands behind a line's first word: t is a text, n a number.
var forms = map[string][]string{
	"create": {"tnnnn"}, "hold": {"t"}, "free": {"t"}, "delete": {"t"}, "put": {"ttt"}, "tick": {""}, "look": {"tt", "ttn"}, "stand": {"t"},
	"history": {"tt"}, "audit": {"tnn"}, "growth": {"nn"}, "crash": {""},
}

var isNumber = regexp.MustCompile(`^(0|[1-9][0-9]{0,8})$`)

// isLine: does it have one of its first word's forms?
func isLine(words []string) bool {
	return slices.ContainsFunc(forms[words[0]], func(form string) bool {
		if len(words) != 1+len(form) {
			return false
		}
		for i, kind := range form {
			word := words[1+i]
			if word == "" || kind == 'n' && !isNumber.MatchString(word) {
				return false
			}
		}
		return true
	})
}

// model is what scripts come to, told by a host without a store, that counts the blocks of its tenants' journals itself.
type model struct {
	t    *testing.T
	host *host.Host
	left map[string]int // blocks, by ids
	seen map[string]int // how often each kind of line was told
}

func newModel(t *testing.T) *model {
	t.Helper()
	h, err := host.New(seed(), 4, 0)
	if err != api.OK {
		t.Fatal(err)
	}
	return &model{t, h, map[string]int{}, map[string]int{}}
}

func seed() [32]byte { return sha2.Sum([]byte("host")) }

// run: the lines that a script is to come to.
func (m *model) run(script string) string {
	told := ""
	for i, line := range strings.Split(script, "\n") {
		if i == 200 {
			break
		}
		if line == "" || strings.HasPrefix(line, "#") {
			continue
		}
		told += m.line(line) + "\n"
	}
	return told
}

func (m *model) line(line string) string {
	words := strings.Split(line, " ")
	if !isLine(words) {
		m.seen["what"]++
		return "what?"
	}
	text := func(i int) []byte { return []byte(words[i]) }
	number := func(i int) int {
		n, err := strconv.Atoi(words[i])
		if err != nil {
			m.t.Fatal(err)
		}
		return n
	}
	r := wire.Request{}
	switch words[0] {
	case "tick":
		return m.say(words[0], m.host.Tick(), "ok")
	case "crash":
		return m.say(words[0], api.OK, "ok")
	case "growth":
		r = wire.Request{Kind: wire.Growth, From: number(1), To: number(2)}
	case "audit":
		r = wire.Request{Kind: wire.Audit, Id: text(1), From: number(2), To: number(3)}
	case "create":
		r = wire.Request{Kind: wire.Create, Id: text(1), Keys: direct.Keys{Vrf: hmac.Key(seed(), words[1], 1), Bind: hmac.Key(seed(), words[1], 2)}, Period: number(5)}
		r.Limits = direct.Limits{Labels: number(2), Pending: number(3), Epochs: number(4)}
	case "put":
		r = wire.Request{Kind: wire.Put, Id: text(1), Label: text(2), Value: text(3)}
	case "look":
		r = wire.Request{Kind: wire.Lookup, Id: text(1), Label: text(2), From: -1}
		if len(words) > 3 {
			r.From = number(3)
		}
	case "history":
		r = wire.Request{Kind: wire.History, Id: text(1), Label: text(2)}
	default:
		r = wire.Request{Kind: map[string]int{"hold": wire.Hold, "free": wire.Free, "delete": wire.Delete, "stand": wire.Standing}[words[0]], Id: text(1)}
	}
	a := m.serve(r)
	return m.say(words[0], a.Err, m.told(r.Kind, a))
}

func (m *model) say(name string, err api.Errno, told string) string {
	m.seen[fmt.Sprint(name, " ", int(err))]++
	if err != api.OK {
		return fmt.Sprint("error ", int(err))
	}
	return told
}

func (m *model) serve(r wire.Request) wire.Answer {
	if len(r.Id) > 16 || len(r.Label) > 32 || len(r.Value) > 64 {
		return wire.Answer{Err: api.ErrForm}
	}
	id := string(r.Id)
	_, err := m.host.Place(r.Id)
	need := 1
	if 7+len(r.Id)+len(r.Label)+len(r.Value) > 117 {
		need = 2
	}
	if r.Kind == wire.Put && err == api.OK && m.left[id] < need {
		return wire.Answer{Err: api.ErrFull}
	}
	a := m.host.Serve(r)
	switch {
	case a.Err != api.OK:
	case r.Kind == wire.Put:
		m.left[id] -= need
	case r.Kind == wire.Create:
		m.left[id] = 60
	}
	return a
}

func (m *model) told(kind int, a wire.Answer) string {
	switch kind {
	case wire.Lookup:
		if !a.Found.Present {
			return fmt.Sprintf("absent at %d", a.Found.Epoch)
		}
		return fmt.Sprintf("%s version %d at %d", a.Found.Value, a.Found.Version, a.Found.Epoch)
	case wire.Standing:
		if a.Member.Gone {
			return "gone"
		}
		return fmt.Sprintf("live at %d", a.Member.Epoch)
	case wire.History:
		line := ""
		for i, e := range a.Entries {
			if i > 0 {
				line += " "
			}
			line += fmt.Sprintf("%d:%s", e.Epoch, e.Value)
		}
		return line
	case wire.Audit:
		return fmt.Sprintf("%d epochs", len(a.Marks))
	case wire.Growth:
		return fmt.Sprintf("%d sums", len(a.Sums))
	}
	return "ok"
}

// chance makes scripts.
type chance struct{ *rand.Rand }

func one[T any](c chance, l ...T) T { return l[c.Intn(len(l))] }

func (c chance) id() string {
	if c.Intn(12) > 0 {
		return one(c, "a", "a", "b", "c")
	}
	return one(c, "d", "e", "f", strings.Repeat("i", 16), strings.Repeat("i", 17), "\xff\x00", "#")
}

func (c chance) label() string {
	if c.Intn(12) > 0 {
		return one(c, "x", "y")
	}
	return one(c, "z", strings.Repeat("l", 32), strings.Repeat("l", 33), "\r")
}

func (c chance) value() string {
	if c.Intn(8) > 0 {
		return one(c, "v", "w", "é")
	}
	return one(c, strings.Repeat("v", 64), strings.Repeat("v", 65), "\xfe\t")
}

func (c chance) epoch() string {
	if c.Intn(12) > 0 {
		return fmt.Sprint(c.Intn(5))
	}
	return one(c, "999999999", "1000000000", "-1", "01", "1.", "\u0661")
}

func (c chance) limit() string {
	if c.Intn(12) > 0 {
		return one(c, "1", "2", "3", "9")
	}
	return one(c, "0", "64", "65", "x")
}

// line: one that is right, or nearly so.
func (c chance) line() string {
	var words []string
	switch c.Intn(20) {
	case 0, 1:
		words = []string{"create", c.id(), c.limit(), c.limit(), c.limit(), one(c, "1", "1", "2", "3", "1000", "1001")}
	case 2, 3, 4, 5:
		words = []string{"put", c.id(), c.label(), c.value()}
	case 6, 7, 8:
		words = []string{"tick"}
	case 9, 10, 11:
		words = []string{"look", c.id(), c.label()}
	case 12:
		words = []string{"look", c.id(), c.label(), c.epoch()}
	case 13, 14:
		words = []string{"stand", c.id()}
	case 15:
		words = []string{"history", c.id(), c.label()}
	case 16:
		words = []string{"audit", c.id(), c.epoch(), c.epoch()}
	case 17:
		words = []string{"growth", c.epoch(), c.epoch()}
	case 18:
		words = []string{one(c, "hold", "free", "free"), c.id()}
	case 19:
		words = []string{one(c, "crash", "delete", "hold", "free"), c.id()}
		if words[0] == "crash" {
			words = words[:1]
		}
	}
	line := strings.Join(words, " ")
	switch c.Intn(40) {
	case 0:
		return one(c, "", "#", "# "+line, " "+line, line+" ", strings.Replace(line, " ", "  ", 1), line+" x")
	case 1:
		return strings.Join(words[:len(words)-1], " ")
	case 2:
		return strings.ToUpper(line)
	}
	return line
}
