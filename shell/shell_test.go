package shell_test

import (
	"fmt"
	"math/rand"
	"slices"
	"strings"
	"testing"

	"custumal/shell"
)

// expect: a script's lines, each beside what it comes to; "" where it is to come to no line.
func expect(t *testing.T, script ...[2]string) {
	t.Helper()
	var lines []string
	want := ""
	for _, l := range script {
		lines = append(lines, l[0])
		if l[1] != "" {
			want += l[1] + "\n"
		}
	}
	for _, end := range []string{"", "\n"} {
		got := shell.Run(strings.Join(lines, "\n") + end)
		if got == want {
			continue
		}
		told, rest := strings.Split(got, "\n"), script
		for len(rest) > 0 && len(told) > 0 && (rest[0][1] == "" || rest[0][1] == told[0]) {
			if rest[0][1] != "" {
				told = told[1:]
			}
			rest = rest[1:]
		}
		t.Fatalf("%.90q and what is ahead of it:\n%q\nnot\n%q", slices.Concat(rest, [][2]string{{}})[0][0], got, want)
	}
}

// The chapter's example (P33.1).
func TestExample(t *testing.T) {
	if got := shell.Run("create a 3 3 3 1\ntick\nlook a x"); got != "ok\nok\nabsent at 1\n" {
		t.Errorf("%q", got)
	}
	if got := shell.Run(""); got != "" {
		t.Errorf("of nothing: %q", got)
	}
}

// Each kind of line, and what it tells when it is done, and when it isn't (P33.1).
func TestLife(t *testing.T) {
	expect(t, [][2]string{
		{"stand a", "error 10"},
		{"look a x", "error 10"},
		{"create a 2 2 5 1", "ok"},
		{"create a 2 2 5 1", "error 11"},
		{"look a x", "error 10"},
		{"history a x", "error 10"},
		{"audit a 0 0", "1 epochs"},
		{"growth 0 1", "0 sums"},
		{"growth 1 2", "error 1"},
		{"put a x one", "ok"},
		{"put a y two", "ok"},
		{"put a x three", "error 6"},
		{"tick", "ok"},
		{"look a x", "one version 1 at 1"},
		{"look a x", "one version 1 at 1"},
		{"look a x 0", "absent at 0"},
		{"look a x 1", "one version 1 at 1"},
		{"look a x 2", "error 10"},
		{"look a never", "absent at 1"},
		{"put a x three", "ok"},
		{"put a never four", "error 6"},
		{"look a x", "one version 1 at 1"},
		{"tick", "ok"},
		{"look a x", "three version 2 at 2"},
		{"look a x 1", "one version 1 at 1"},
		{"look a y", "two version 1 at 2"},
		{"history a x", "1:one 2:three"},
		{"history a y", "1:two"},
		{"history a never", "error 10"},
		{"audit a 0 2", "3 epochs"},
		{"audit a 1 2", "2 epochs"},
		{"audit a 2 1", "error 10"},
		{"audit a 0 3", "error 10"},
		{"growth 1 3", "2 sums"},
		{"growth 2 3", "1 sums"},
		{"growth 3 3", "0 sums"},
		{"growth 3 2", "error 1"},
		{"stand a", "live at 2"},
		{"free a", "error 12"},
		{"hold a", "ok"},
		{"hold a", "error 12"},
		{"put a x five", "error 12"},
		{"tick", "ok"},
		{"stand a", "live at 2"},
		{"look a x", "three version 2 at 2"},
		{"free a", "ok"},
		{"tick", "ok"},
		{"stand a", "live at 3"},
		{"look a x", "three version 2 at 3"},
		{"crash", "ok"},
		{"look a x", "three version 2 at 3"},
		{"hold b", "error 10"},
		{"free b", "error 10"},
		{"delete b", "error 10"},
		{"delete a", "ok"},
		{"stand a", "live at 3"},
		{"delete a", "error 9"},
		{"look a x", "error 9"},
		{"crash", "ok"},
		{"stand a", "live at 3"},
		{"tick", "ok"},
		{"stand a", "gone"},
		{"create a 2 2 5 1", "error 9"},
		{"hold a", "error 9"},
		{"put a x six", "error 9"},
		{"history a x", "error 9"},
		{"audit a 0 1", "error 9"},
	}...)
}

// The limits that a create tells, each in its place (P33.1).
func TestCreate(t *testing.T) {
	t.Parallel()
	for _, line := range []string{"create a 0 3 3 1", "create a 65 3 3 1", "create a 3 0 3 1", "create a 3 17 3 1", "create a 3 3 0 1", "create a 3 3 33 1", "create a 3 3 3 0", "create a 3 3 3 1001", "create a 999999999 3 3 1"} {
		expect(t, [2]string{line, "error 1"}, [2]string{"stand a", "error 10"}, [2]string{"hold a", "error 10"})
	}
	for _, line := range []string{"create a 64 16 32 1000", "create a 1 1 1 1"} {
		expect(t, [2]string{line, "ok"})
	}
	// One label; two puts that wait; three epochs; at each second tick.
	expect(t, [][2]string{
		{"create a 1 2 3 2", "ok"}, {"put a x v", "ok"}, {"put a y v", "error 6"}, {"put a x w", "ok"}, {"put a x u", "error 6"}, {"tick", "ok"}, {"look a x", "absent at 0"},
		{"tick", "ok"}, {"look a x", "w version 2 at 1"}, {"history a x", "1:v 1:w"}, {"tick", "ok"}, {"stand a", "live at 1"}, {"tick", "ok"}, {"stand a", "live at 2"},
		{"tick", "ok"}, {"tick", "ok"}, {"stand a", "live at 3"}, {"put a x u", "ok"}, {"tick", "ok"}, {"tick", "ok"}, {"stand a", "live at 3"}, {"look a x", "w version 2 at 3"},
	}...)
	// Four places.
	expect(t, [][2]string{
		{"create a 1 1 1 1", "ok"}, {"create b 1 1 1 1", "ok"}, {"create c 1 1 1 1", "ok"}, {"create d 1 1 1 1", "ok"}, {"create e 1 1 1 1", "error 7"},
		{"delete b", "ok"}, {"create e 1 1 1 1", "ok"}, {"create f 1 1 1 1", "error 7"},
	}...)
}

// A tenant's journal has 60 blocks, and a record more than one, if its bytes are more than 117 (P33.1).
func TestFull(t *testing.T) {
	t.Parallel()
	puts := func(id, value string, ahead, room int) (l [][2]string) {
		l = append(l, [2]string{"create " + id + " 2 16 32 1", "ok"})
		for i := range ahead + 2 {
			told := "ok"
			if i >= room {
				told = "error 7"
			}
			l = append(l, [2]string{"put " + id + " " + strings.Repeat("l", 32) + " " + value, told})
			if i%16 == 15 {
				l = append(l, [2]string{"tick", "ok"})
			}
		}
		return append(l, [2]string{"crash", "ok"}, [2]string{"put " + id + " " + strings.Repeat("l", 32) + " " + value, "error 7"})
	}
	long := strings.Repeat("i", 16)
	expect(t, puts("a", "v", 60, 60)...)
	expect(t, puts(long, strings.Repeat("v", 62), 60, 60)...)
	expect(t, puts(long, strings.Repeat("v", 63), 30, 30)...)
}

// Texts that are longer than a request may have are refused as such; the longest ones aren't (P33.1).
func TestLongTexts(t *testing.T) {
	id, label, value := strings.Repeat("i", 16), strings.Repeat("l", 32), strings.Repeat("v", 64)
	expect(t, [][2]string{
		{"create " + id + " 1 1 1 1", "ok"}, {"put " + id + " " + label + " " + value, "ok"}, {"tick", "ok"}, {"look " + id + " " + label, value + " version 1 at 1"},
		{"history " + id + " " + label, "1:" + value}, {"hold " + id, "ok"}, {"free " + id, "ok"},
		{"create " + id + "i 1 1 1 1", "error 2"}, {"hold " + id + "i", "error 2"}, {"free " + id + "i", "error 2"}, {"delete " + id + "i", "error 2"}, {"stand " + id + "i", "error 2"},
		{"put " + id + "i x v", "error 2"}, {"put a " + label + "l v", "error 2"}, {"put a x " + value + "v", "error 2"}, {"look " + id + "i x", "error 2"}, {"look a " + label + "l 0", "error 2"},
		{"history " + id + "i x", "error 2"}, {"history a " + label + "l", "error 2"}, {"audit " + id + "i 0 0", "error 2"}, {"create " + id + "i 0 0 0 0", "error 2"},
		{"create a 1 1 1 " + strings.Repeat("1", 10), "what?"}, {"put a " + strings.Repeat("l", 100000) + " v", "error 2"}, {strings.Repeat("l", 100000), "what?"}, {strings.Repeat(" ", 100000), "what?"},
	}...)
}

// Lines that are none, and those that give none (P33.1).
func TestWhat(t *testing.T) {
	t.Parallel()
	right := []string{"create a 3 3 3 1", "hold a", "free a", "delete a", "put a x v", "tick", "look a x", "look a x 1", "stand a", "history a x", "audit a 0 1", "growth 0 1", "crash"}
	for _, line := range right {
		words := strings.Split(line, " ")
		wrong := []string{" " + line, line + " ", "\t" + line, line + "\t ", line + "  1", line + " 1 1 1 1 1", "  " + line, strings.ToUpper(line), "x" + line, words[0] + "x" + line[len(words[0]):]}
		if line != "look a x" {
			wrong = append(wrong, line+" 1")
		}
		for i := range words {
			wrong = append(wrong, strings.Join(slices.Replace(slices.Clone(words), i, i+1, ""), " "))
			wrong = append(wrong, strings.Join(slices.Replace(slices.Clone(words), i, i+1, words[i], ""), " "))
			if line != "look a x 1" || i == 0 { // without another word it is a look still
				wrong = append(wrong, strings.Join(slices.Delete(slices.Clone(words), i, i+1), " "))
			}
			wrong = append(wrong, strings.Join(words[:i], "\t")+strings.Join(words[i:], "\t")+"\t")
		}
		for _, line := range wrong {
			told := "what?"
			if line == "" {
				told = ""
			}
			expect(t, [2]string{line, told})
		}
	}
	for _, line := range []string{"?", "ok", " ", "  ", "\r", "tick\r", "crash\r", "tick#", " #", "look#", "export a", "import a", "\x00", "\xff\xfe", "create", "create  ", "growth -1 0", "tick\v"} {
		expect(t, [2]string{line, "what?"})
	}
	for _, line := range []string{"", "#", "#tick", "# ", "##", "#\xff", "#" + strings.Repeat("x", 5000)} {
		expect(t, [2]string{line, ""}, [2]string{"tick", "ok"}, [2]string{line, ""}, [2]string{line, ""}, [2]string{"growth 0 2", "0 sums"}, [2]string{line, ""})
	}
	// What isn't a line changes nothing.
	expect(t, [][2]string{{"create a 3 3 3 1 1", "what?"}, {"stand a", "error 10"}, {"create a 3 3 3 1", "ok"}, {"hold a ", "what?"}, {"delete a a", "what?"}, {"put a  v", "what?"}, {"tick tick", "what?"}, {"growth 1 2", "error 1"}, {"free a", "error 12"}}...)
}

// A number, wherever one must be: one to nine digits, without a nought ahead (P33.1).
func TestNumbers(t *testing.T) {
	t.Parallel()
	for _, line := range []string{"create a N 3 3 1", "create a 3 N 3 1", "create a 3 3 N 1", "create a 3 3 3 N", "look a x N", "audit a N 9", "audit a 0 N", "growth N 1", "growth 0 N"} {
		for _, n := range []string{"00", "01", "007", "-1", "-0", "+1", "1234567890", "0123456789", "1e3", "0x1", "1.", "1_0", "x", "1x", "x1", "\u0661", "１", "#", "/", ":", "1\r", "\x001", "99999999999999999999"} {
			expect(t, [2]string{strings.Replace(line, "N", n, 1), "what?"})
		}
		for _, n := range []string{"0", "1", "9", "10", "1000", "99999999", "100000000", "999999999"} {
			if got := shell.Run(strings.Replace(line, "N", n, 1)); got == "what?\n" || strings.Count(got, "\n") != 1 {
				t.Errorf("%s of %s: %q", line, n, got)
			}
		}
	}
	// Each digit counts: 19 periods, 20 and 21 are told apart.
	for period := 19; period < 22; period++ {
		l := [][2]string{{fmt.Sprintf("create a 1 1 9 %d", period), "ok"}}
		for n := 1; n < 25; n++ {
			epoch := 0
			if n >= period {
				epoch = 1
			}
			l = append(l, [2]string{"tick", "ok"}, [2]string{"stand a", fmt.Sprint("live at ", epoch)})
		}
		expect(t, l...)
	}
	// A label or a value may be a number, or look like none.
	expect(t, [][2]string{{"create 1 2 2 2 1", "ok"}, {"put 1 01 -1", "ok"}, {"put 1 # #", "ok"}, {"tick", "ok"}, {"look 1 01 1", "-1 version 1 at 1"}, {"look 1 #", "# version 1 at 1"}, {"history 1 #", "1:#"}}...)
}

// Texts are bytes: what is put is told as it was, whatever it is made of (P33.1).
func TestBytes(t *testing.T) {
	t.Parallel()
	for _, text := range []string{"\xff\xfe", "é", "\x00", "\r", "a\tb", "\u2028", "\u00a0", "ok", "%d", "\"", "?"} {
		expect(t, [][2]string{
			{"create " + text + " 1 1 9 1", "ok"}, {"put " + text + " " + text + " " + text, "ok"}, {"tick", "ok"}, {"look " + text + " " + text, text + " version 1 at 1"},
			{"look " + text + " other", "absent at 1"}, {"history " + text + " " + text, "1:" + text}, {"stand " + text, "live at 1"},
		}...)
	}
}

// The first 200 lines count, those that give none, too; none behind them does (P33.1).
func TestFirstLines(t *testing.T) {
	t.Parallel()
	for _, x := range []struct {
		script string
		want   int
	}{
		{strings.Repeat("hold a\n", 199), 199},
		{strings.Repeat("hold a\n", 199) + "hold a", 200},
		{strings.Repeat("hold a\n", 200), 200},
		{strings.Repeat("hold a\n", 200) + "hold a", 200},
		{strings.Repeat("hold a\n", 900), 200},
		{strings.Repeat("\n", 199) + "hold a\nhold a", 1},
		{strings.Repeat("\n", 200) + "hold a\n", 0},
		{strings.Repeat("#\n", 198) + "hold a\nhold a\nhold a", 2},
		{strings.Repeat("hold a\n\n", 150), 100},
		{strings.Repeat("what\n#\n\n\n", 150), 50},
	} {
		got := shell.Run(x.script)
		if strings.Count(got, "\n") != x.want || strings.Count(got, "error 10\n")+strings.Count(got, "what?\n") != x.want {
			t.Errorf("%.40q..: %d lines, not %d: %.60q", x.script, strings.Count(got, "\n"), x.want, got)
		}
	}
	if got := shell.Run("create a 1 1 1 1\n" + strings.Repeat("\n", 197) + "tick\nstand a\nhistory a x\n"); got != "ok\nok\nlive at 1\n" {
		t.Errorf("%q", got)
	}
}

// Scripts by chance are held against a host without a store, and lines told apart (P33.1; P4).
func TestByChance(t *testing.T) {
	t.Parallel()
	seen := map[string]int{}
	for round := range 60 {
		c := chance{rand.New(rand.NewSource(int64(round)))}
		var lines []string
		if round%5 < 4 {
			lines = append(lines, "create a 9 9 9 1", "create b 3 3 9 2")
		}
		for range c.Intn(230) {
			lines = append(lines, c.line())
		}
		script := strings.Join(lines, "\n")
		m := newModel(t)
		want := m.run(script)
		if got := shell.Run(script); got != want {
			told, wanted := strings.Split(got, "\n"), strings.Split(want, "\n")
			for i := range min(len(told), len(wanted)) {
				if told[i] != wanted[i] {
					t.Fatalf("round %d, the %d-th line told: %q, not %q", round, i, told[i], wanted[i])
				}
			}
			t.Fatalf("round %d: %d lines, not %d", round, len(told), len(wanted))
		}
		for name, count := range m.seen {
			seen[name] += count
		}
	}
	for name, errs := range map[string][]int{
		"create": {0, 1, 2, 7, 9, 11}, "hold": {0, 2, 9, 10, 12}, "free": {0, 9, 10, 12}, "delete": {0, 9, 10}, "put": {0, 2, 6, 9, 10, 12}, "tick": {0}, "look": {0, 2, 9, 10},
		"stand": {0, 2, 10}, "history": {0, 2, 9, 10}, "audit": {0, 2, 9, 10}, "growth": {0, 1}, "crash": {0},
	} {
		for _, err := range errs {
			if seen[fmt.Sprint(name, " ", err)] == 0 {
				t.Errorf("%s with the error %d never came about", name, err)
			}
		}
	}
	if seen["what"] < 100 {
		t.Errorf("%d lines alone were none", seen["what"])
	}
}

// A crash, wherever it stands, changes no other line (P33.2; P6).
func TestCrash(t *testing.T) {
	t.Parallel()
	for round := range 14 {
		c := chance{rand.New(rand.NewSource(int64(500 + round)))}
		lines := []string{"create a 9 9 9 1", "create b 3 3 9 2"}
		for range 90 {
			line := c.line()
			if line == "crash" || line == "" || line[0] == '#' {
				line = "tick"
			}
			lines = append(lines, line)
		}
		want := strings.Split(shell.Run(strings.Join(lines, "\n")), "\n")
		every := 1 + round%7
		var with, told []string
		for i, line := range lines {
			with = append(with, line)
			told = append(told, want[i])
			if i%every == 0 {
				with = append(with, "crash")
				told = append(told, "ok")
			}
		}
		if got := shell.Run(strings.Join(with, "\n")); got != strings.Join(told, "\n")+"\n" {
			t.Fatalf("round %d:\n%q\nnot\n%q", round, got, told)
		}
	}
}
