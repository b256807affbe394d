package monitor_test

import (
	"fmt"
	"math/rand"
	"testing"

	"custumal/api"
	"custumal/direct"
	"custumal/host"
	"custumal/monitor"
	"custumal/verify"
	"custumal/wire"
)

// ask: by bytes, as one who watches does.
func ask(t *testing.T, h *host.Host, r wire.Request) wire.Answer {
	t.Helper()
	b, err := wire.Ask(r)
	if err != api.OK {
		t.Fatalf("%+v: %v", r, err)
	}
	a, err := wire.Told(h.Do(b))
	if err != api.OK {
		t.Fatalf("%+v: %v", r, err)
	}
	return a
}

// watched: what comes of all that a monitor asks.
func watched(t *testing.T, h *host.Host, m *monitor.Monitor, id string) (wire.Answer, api.Errno) {
	t.Helper()
	stand := ask(t, h, wire.Request{Kind: wire.Standing, Id: []byte(id)})
	growth, audit := m.Asks(stand.Under.Signed.Epoch+1, stand.Member.Epoch)
	return stand, m.Watch(stand, ask(t, h, growth), ask(t, h, audit))
}

// What a host answers is taken, however often each tenant is watched; of one that was deleted since the last tick the host has no audit any more (P29.2).
func TestHonestHosts(t *testing.T) {
	t.Parallel()
	counts := map[string]int{}
	for round := range 6 {
		c := rand.New(rand.NewSource(int64(round)))
		h, _ := host.New([32]byte{byte(round)}, 5, 0)
		watchers := map[string][]*monitor.Monitor{}
		last := map[*monitor.Monitor]verify.Seen{}
		deleted := map[string]bool{}
		for range 300 {
			id := string(rune('a' + c.Intn(5)))
			r := wire.Request{Id: []byte(id), Label: []byte{'l'}, Value: []byte{byte(c.Intn(256))}}
			switch c.Intn(12) {
			case 0, 1:
				r.Kind, r.Period, r.Limits = wire.Create, 1+c.Intn(3), direct.Limits{Labels: 2, Pending: 9, Epochs: 32}
			case 2:
				r.Kind = wire.Put
			case 3:
				r.Kind = []int{wire.Hold, wire.Free}[c.Intn(2)]
			case 4:
				if r.Kind = wire.Put; c.Intn(20) == 0 {
					r.Kind = wire.Delete
				}
			case 5, 6:
				h.Tick()
				clear(deleted)
				continue
			default:
				if len(watchers[id]) < 3 && c.Intn(3) == 0 {
					watchers[id] = append(watchers[id], monitor.New(h.Public(), []byte(id)))
				}
				for _, m := range watchers[id] {
					if c.Intn(2) == 0 {
						continue
					}
					expectWatched(t, h, m, id, last, deleted[id], counts)
				}
				continue
			}
			if a := ask(t, h, r); a.Kind == wire.Delete && a.Err == api.OK {
				deleted[id] = true
			}
		}
	}
	for _, what := range []string{"first", "on, gone false", "on, gone true", "not there", "no audit"} {
		if counts[what] == 0 {
			t.Errorf("%s never came about", what)
		}
	}
}

func expectWatched(t *testing.T, h *host.Host, m *monitor.Monitor, id string, last map[*monitor.Monitor]verify.Seen, deleted bool, counts map[string]int) {
	t.Helper()
	_, began := m.Last()
	stand, err := watched(t, h, m, id)
	want := api.OK
	switch {
	case stand.Err != api.OK:
		want = api.ErrForm
		counts["not there"]++
	case began && deleted && !stand.Member.Gone:
		want = api.ErrForm
		counts["no audit"]++
	default:
		seen, err := verify.Stand(h.Public(), []byte(id), stand)
		if err != api.OK {
			t.Fatal(err)
		}
		last[m] = seen
		counts[map[bool]string{false: "first", true: fmt.Sprintf("on, gone %t", seen.Gone)}[began]]++
	}
	if err != want {
		t.Fatalf("%q: %v, not %v", id, err, want)
	}
	seen, ok := m.Last()
	if _, there := last[m]; ok != there || said(seen) != said(last[m]) {
		t.Fatalf("%q: %s, not %s", id, said(seen), said(last[m]))
	}
}

// Who tells one thing to the one and another to the other is found out by the one who is told both (P29.1; P7).
func TestTwoFaces(t *testing.T) {
	limits := direct.Limits{Labels: 2, Pending: 2, Epochs: 9}
	faces := [2]*host.Host{}
	for i := range faces {
		h, _ := host.New(seed, 2, 0)
		ask(t, h, wire.Request{Kind: wire.Create, Id: []byte("a"), Limits: limits, Period: 1})
		h.Tick()
		ask(t, h, wire.Request{Kind: wire.Put, Id: []byte("a"), Label: []byte{'l'}, Value: []byte{byte(i)}})
		h.Tick()
		faces[i] = h
	}
	one, other := monitor.New(public(), []byte("a")), monitor.New(public(), []byte("a"))
	for range 3 {
		if _, err := watched(t, faces[0], one, "a"); err != api.OK {
			t.Error(err)
		}
		if _, err := watched(t, faces[1], other, "a"); err != api.OK {
			t.Error(err)
		}
		if _, err := watched(t, faces[1], one, "a"); err != api.ErrFalse {
			t.Errorf("at the same super-epoch: %v", err)
		}
		faces[1].Tick()
		if _, err := watched(t, faces[1], one, "a"); err != api.ErrProof {
			t.Errorf("a super-epoch later: %v", err)
		}
		faces[0].Tick()
	}
}
