package shell

import (
	"fmt"
	"strings"
	"testing"

	"custumal/api"
	"custumal/direct"
	"custumal/disk"
	"custumal/hmac"
	"custumal/host"
	"custumal/keep"
	"custumal/sha2"
	"custumal/verify"
	"custumal/wire"
)

func (s *shell) expect(t *testing.T, want string, lines ...string) {
	t.Helper()
	var told []string
	for _, line := range lines {
		told = append(told, s.do(line))
	}
	if got := strings.Join(told, ", "); got != want {
		t.Errorf("%q: %s, not %s", lines, got, want)
	}
}

// The store is of the chapter's config, on a disk that has just its blocks; tenants have the keys that are made of its seed and their ids (P33.1).
func TestStore(t *testing.T) {
	s := begin()
	if s.config != (keep.Config{Seed: sha2.Sum([]byte("host")), Places: 4, Common: 400, Each: 60}) || s.disk.Size() != 640 || s.store.Room() != 400 {
		t.Errorf("%+v, %d blocks, Room %d", s.config, s.disk.Size(), s.store.Room())
	}
	if h, _ := host.New(sha2.Sum([]byte("host")), 4, 0); s.public != h.Public() || string(s.store.Host().State()) != string(h.State()) {
		t.Error("another State, or other public bytes")
	}
	s.expect(t, "ok, ok", "create a 3 4 5 6", "create \xff# 3 4 5 6")
	for _, p := range s.store.Host().Parts().Tenants {
		keys := direct.Keys{Vrf: hmac.Key(sha2.Sum([]byte("host")), string(p.Id), 1), Bind: hmac.Key(sha2.Sum([]byte("host")), string(p.Id), 2)}
		if p.Directory.Keys() != keys || p.Directory.Limits() != (direct.Limits{Labels: 3, Pending: 4, Epochs: 5}) || p.Period != 6 {
			t.Errorf("%q: %+v", p.Id, p)
		}
	}
}

// A crash keeps nothing of what doesn't last; the store is opened again, with an empty cache (P33.1, P33.2).
func TestCrashIsOne(t *testing.T) {
	s := begin()
	s.expect(t, "ok, ok, ok, w version 1 at 1, w version 1 at 1", "create a 3 3 3 1", "put a x w", "tick", "look a x", "look a x")
	store, state := s.store, string(s.store.Host().State())
	s.disk.Write(50, disk.Block{7})
	s.disk.Arm(3)
	s.expect(t, "ok", "crash")
	if b, _ := s.disk.Read(50); b != (disk.Block{}) || s.disk.Waiting() != 0 {
		t.Error("a write that didn't last is kept")
	}
	if s.store == store || string(s.store.Host().State()) != state {
		t.Error("it isn't opened again, or has another State")
	}
	b, _ := wire.Ask(wire.Request{Kind: wire.Lookup, Id: []byte("a"), Label: []byte("x"), From: -1})
	if a, _ := wire.Told(s.store.Do(b)); a.Err != api.OK || a.Found.Reads == 0 {
		t.Errorf("%v: it was kept ahead", a.Err)
	}
	// A tick and more puts than three writes: the power was not left to go off.
	s.expect(t, "ok, ok, ok, v version 2 at 2", "put a x v", "tick", "tick", "look a x 2")
}

// Where the power is off each line that needs it says so, and a crash brings it back (P33.1).
func TestDown(t *testing.T) {
	s := begin()
	s.expect(t, "ok, ok", "create a 3 3 9 1", "tick")
	s.disk.Arm(1)
	s.expect(t, "error 13, error 13, error 13, error 13, error 13, what?, error 2, ok, ok, live at 2", "tick", "look a x", "stand a", "put a x v", "tick", "tock", "hold "+strings.Repeat("i", 17), "crash", "tick", "stand a")
}

// An Open that fails is told by its number (P33.1).
func TestOpenFails(t *testing.T) {
	s := begin()
	s.expect(t, "ok", "create a 3 3 3 1")
	s.disk.Write(1, disk.Block{1, 8: 1, 10: 1, 11: 9}) // a record of one byte, 9: none's
	s.disk.Sync()
	s.expect(t, "error 18", "crash")
	s.expect(t, "error 1, error 1, what?", "tick", "stand a", "stand")
}

// What isn't taken, of a look and of a stand, is a lie, with the error of who checks it; of other lines nothing is checked (P33.1).
func TestLies(t *testing.T) {
	lines := []string{"look a x", "look a x 0", "look a never", "stand a", "history a x", "audit a 0 1", "growth 0 1", "put a x w", "look b x", "stand b", "tick", "hold a"}
	honest := "v version 1 at 1, absent at 0, absent at 1, live at 1, 1:v, 2 epochs, 0 sums, ok, error 10, error 10, ok, ok"
	for _, lying := range []bool{false, true} {
		s := begin()
		s.expect(t, "ok, ok, ok", "create a 3 3 3 1", "put a x v", "tick")
		want := honest
		if lying {
			s.public = [32]byte{1: 7} // of another host
			want = fmt.Sprintf("lie N, lie N, lie N, lie N, %s", strings.SplitN(honest, ", ", 5)[4])
			_, err := verifyOf(s, "a")
			want = strings.ReplaceAll(want, "N", fmt.Sprint(int(err)))
		}
		s.expect(t, want, lines...)
	}
}

// verifyOf: what a client says of how a tenant stands.
func verifyOf(s *shell, id string) (verify.Seen, api.Errno) {
	b, _ := wire.Ask(wire.Request{Kind: wire.Standing, Id: []byte(id)})
	a, _ := wire.Told(s.store.Do(b))
	return verify.Stand(s.public, []byte(id), a)
}
