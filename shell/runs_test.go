package shell_test

import (
	"fmt"
	"math/rand"
	"strings"
	"sync"
	"testing"

	"scruple/api"
	"scruple/shell"
	"scruple/value"
)

// sources are bodies of random scripts; most of them are taken.
var sources = []string{
	`export fn f(a) { save("k", a); return a + 1; }`,
	"export fn f(k, v) {\n\treturn save(k, v);\n}\n\nexport fn g(k) { return load(k); }\nexport fn h(k) { return drop(k); }",
	`export fn f() { let k = ""; let n = 0; while (kind(after(k)) == 3) { k = after(k); n = n + 1; } return [k, n]; }`,
	`export fn f(a) { return g(a) + 1; } fn g(b) { let c = b; return c; } export fn h(a) { save("h", a); abort(a); }`,
	`export fn f(a) { let n = 0; while (n < a) { n = n + 1; save("n", n); } return {k: n, "": a}; } export fn g(k) { return after(k); }`,
	`export fn f(a) { return f([a]); } export fn g(a) { return [1 / a, "x"[a], {k: a}.j]; } export fn h() { while (true) { } }`,
	"", "fn f() { x; }", "fn f(", "\"\n\"", "// .\n .\n", "fn f() { return 1;\n.. }", "modules\nfoo",
}

// assembled are bodies for asm.
var assembled = []string{
	".const 7\n.func 0 0 1\nconst 0\nret\n.export f 0", ".const \"a b\"\n.func 1 2 3\n; x\n get 0\nunless e\n.at e\nconst 0\nload\nret\n.export g 0\n.export f 0\n",
	".func 0 0 1\njump x", ".func 0 0 1\n.bytes 0a09", "foo", "", ".const 1\n.func 0 0 1\nconst 0\nret\n.bytes 2a\n.export f 0", ".func 0 0 1\n.at x\njump x\n.export h 0",
}

func oneOf(dice *rand.Rand, l ...string) string { return l[dice.Intn(len(l))] }

func newName(dice *rand.Rand) string {
	return oneOf(dice, "m", "n", "n", "o", "p", "q", "r", "1m", "é")
}

func moduleName(dice *rand.Rand) string {
	return oneOf(dice, "m", "m", "m", "m", "m", "m", "m", "m", "m", "n", "n", "o", "1m")
}

func aCall(dice *rand.Rand) string {
	return moduleName(dice) + " " + oneOf(dice, "f", "f", "f", "f", "f", "g", "g", "h", "i") + " "
}

func gasOf(dice *rand.Rand) string {
	return oneOf(dice, "0", "9", "30", "31", "99", "99", "500", "1000", "5000", "9999", "1000000", "1000001", fmt.Sprint(dice.Intn(120)), fmt.Sprint(dice.Intn(500)))
}

func randomKey(dice *rand.Rand) string {
	return oneOf(dice, `"k"`, `"k"`, `"n"`, `"h"`, `"a b"`, `""`, `"\x00"`, `"\"\\"`)
}

func anElement(dice *rand.Rand, depth int) string {
	switch n := dice.Intn(9); {
	case n < 2 && depth > 0:
		return argsOf(dice, depth-1)
	case n == 2 && depth > 0:
		return `{"a": ` + anElement(dice, depth-1) + `, "b": ` + anElement(dice, depth-1) + `}`
	case n < 6:
		return randomKey(dice)
	}
	return oneOf(dice, "unit", "true", "false", "0", "1", "2", "-1", "5", "9223372036854775807")
}

func argsOf(dice *rand.Rand, depth int) string {
	l := make([]string, []int{0, 1, 1, 1, 2, 2}[dice.Intn(6)])
	for i := range l {
		l[i] = anElement(dice, depth)
	}
	return "[" + strings.Join(l, ", ") + "]"
}

func randomBid(dice *rand.Rand) string {
	return fmt.Sprintf("bid %d %d %d ", dice.Intn(3), dice.Intn(3), dice.Intn(4)) + aCall(dice) + gasOf(dice) + " " + argsOf(dice, 1)
}

// unit is a line of a script, with its body.
func unit(dice *rand.Rand) string {
	switch dice.Intn(20) {
	case 0, 1:
		return "source " + newName(dice) + "\n" + sources[dice.Intn(len(sources))] + "\n."
	case 2:
		return "asm " + newName(dice) + "\n" + assembled[dice.Intn(len(assembled))] + "\n."
	case 3:
		return "module " + newName(dice) + " " + oneOf(dice, "53434d31010301030e02080100000103010009030401016600", "53434d31010100020100030100", "53434d310101000201", "00")
	case 4, 5, 6, 7, 16:
		return "call " + aCall(dice) + gasOf(dice) + " " + argsOf(dice, 2)
	case 8:
		return "trace " + aCall(dice) + gasOf(dice) + " " + oneOf(dice, "0", "1", "2", "3", "4", "9", "20", "999999999") + " " + argsOf(dice, 1)
	case 9, 10, 17, 18:
		return randomBid(dice)
	case 11, 19:
		return "batch " + oneOf(dice, "0", "1", "2", "9", "999999999")
	case 12:
		return "form\n" + sources[dice.Intn(len(sources))] + "\n."
	case 13:
		return oneOf(dice, "show ", "hex ") + moduleName(dice)
	case 14:
		return "get " + randomKey(dice)
	}
	return oneOf(dice, "entries", "entries", "modules", "digest")
}

// spaced is a unit with more blanks where they make no difference: in its first line ahead and behind.
func spaced(dice *rand.Rand, s string) string {
	first, rest, more := strings.Cut(s, "\n")
	first = oneOf(dice, "", "", " ", "   ") + strings.Replace(first, " ", oneOf(dice, " ", " ", "  ", "    "), dice.Intn(3)) + oneOf(dice, "", "", " ", "  ")
	if more {
		return first + "\n" + rest
	}
	return first
}

// units are those of a script. Most begin with a module that may be called.
func units(dice *rand.Rand, most int) []string {
	l := make([]string, 1+dice.Intn(most))
	for i := range l {
		l[i] = unit(dice)
		if i == 0 && dice.Intn(8) > 0 {
			l[i] = "source m\n" + sources[dice.Intn(6)] + "\n."
		}
		// What begins with a value whose text may hold blanks is left as it is.
		if !strings.HasPrefix(l[i], "get") {
			l[i] = spaced(dice, l[i])
		}
	}
	return l
}

// told is all that Run answers, in one text.
func told(text string) string {
	s, line, e := shell.Run(text)
	return fmt.Sprintf("%d %d\n%s", line, int(e), s)
}

func modelTold(text string) string {
	s, line, e := modelRun(text)
	return fmt.Sprintf("%d %d\n%s", line, int(e), s)
}

func meetModel(t *testing.T, text string) {
	t.Helper()
	if got, want := told(text), modelTold(text); got != want {
		t.Fatalf("P24.1: %q\ntells %s\nwant %s", text, got, want)
	}
}

// spoilt is a script with some bytes of it otherwise.
func spoilt(dice *rand.Rand, s string) string {
	b := []byte(s)
	for range 1 + dice.Intn(3) {
		at := dice.Intn(len(b) + 1)
		c := "\n\n  .;0195af\"[],{}:-\t\r\x00\xffmgx"[dice.Intn(27)]
		switch dice.Intn(4) {
		case 0:
			b = append(b[:at], append([]byte{c}, b[at:]...)...)
		case 1:
			if at < len(b) {
				b[at] = c
			}
		case 2:
			b = append(b[:at], b[min(len(b), at+1):]...)
		case 3:
			b = b[:at]
		}
	}
	return string(b)
}

func TestP241Runs(t *testing.T) {
	dice := rand.New(rand.NewSource(241))
	for range 3000 {
		meetModel(t, strings.Join(units(dice, 20), "\n"))
	}
}

func TestP241Spoilt(t *testing.T) {
	dice := rand.New(rand.NewSource(242))
	taken := 0
	for range 8000 {
		s := spoilt(dice, strings.Join(units(dice, 4), "\n"))
		meetModel(t, s)
		if _, _, e := shell.Run(s); e == api.OK {
			taken++
		}
	}
	if taken < 1000 || taken > 7000 {
		t.Errorf("%d of 8000 spoilt scripts are taken", taken)
	}
}

// TestP241Short: all short texts of a few bytes, behind words that begin a line.
func TestP241Short(t *testing.T) {
	for _, first := range []string{"", "get", "batch", "modules", "form", "hex", "module m", "call m f 9", "source"} {
		const bytes = " \n.;0\"[]a"
		for length := range 5 {
			count := 1
			for range length {
				count *= len(bytes)
			}
			for n := range count {
				b := make([]byte, length)
				for i := range b {
					b[i], n = bytes[n%len(bytes)], n/len(bytes)
				}
				meetModel(t, first+string(b))
			}
		}
	}
}

// TestFollowsFirst: what a script tells begins with what its first lines tell.
func TestFollowsFirst(t *testing.T) {
	dice := rand.New(rand.NewSource(243))
	for range 200 {
		l := units(dice, 12)
		all, _, e := shell.Run(strings.Join(l, "\n"))
		if e != api.OK {
			t.Fatalf("P24.1: %q is not taken: %d", l, e)
		}
		for i := range len(l) + 1 {
			some, _, e := shell.Run(strings.Join(l[:i], "\n"))
			if e != api.OK || !strings.HasPrefix(all, some) || i == len(l) && some != all {
				t.Fatalf("%q tells %q; its first %d %q", l, all, i, some)
			}
		}
	}
}

// TestFollowsSilent: lines that say nothing make no difference, but to the numbers of lines.
func TestFollowsSilent(t *testing.T) {
	dice := rand.New(rand.NewSource(244))
	for range 500 {
		l := units(dice, 8)
		if dice.Intn(2) == 0 {
			l[dice.Intn(len(l))] = oneOf(dice, "foo", "get 5", ".", "source", "batch")
		}
		var more []string
		origin := map[int]int{0: 0} // of a line of the second script, the first one's
		first := 1
		second := 1
		for _, s := range l {
			for range dice.Intn(3) {
				more = append(more, oneOf(dice, "", " ", "   ", ";", "; x", "  ;;", ";.", ";source m"))
				second++
			}
			for range 1 + strings.Count(s, "\n") {
				origin[second] = first
				first++
				second++
			}
			more = append(more, s)
		}
		a, line, e := shell.Run(strings.Join(l, "\n"))
		b, place, f := shell.Run(strings.Join(more, "\n"))
		if a != b || origin[place] != line || e != f {
			t.Fatalf("%q tells %q, %d, %d; with lines that say nothing %q, %d, %d", l, a, line, e, b, place, f)
		}
	}
}

// TestT2: a trace to the end comes to what a call comes to.
func TestT2(t *testing.T) {
	dice := rand.New(rand.NewSource(245))
	ended := 0
	for range 1000 {
		l := strings.Join(units(dice, 12), "\n")
		call, gas, args := aCall(dice), gasOf(dice), argsOf(dice, 2)
		ahead, _, _ := shell.Run(l)
		a, _, _ := shell.Run(l + "\ncall " + call + gas + " " + args)
		b, _, _ := shell.Run(l + "\ntrace " + call + gas + " 1000001 " + args)
		a, b = strings.TrimPrefix(a, ahead), strings.TrimPrefix(b, ahead)
		if strings.HasPrefix(a, "error") {
			if a != b {
				t.Fatalf("T2: %s: by a call %q, by a trace %q", call, a, b)
			}
			continue
		}
		ended++
		used, steps := strings.LastIndex(a, " used "), strings.LastIndex(b, " steps ")
		if used < 0 || steps < 0 || a[:used] != b[:steps] {
			t.Fatalf("T2: %q: %s%s %s: by a call %q, by a trace %q", l, call, gas, args, a, b)
		}
	}
	if ended < 100 {
		t.Errorf("T2: %d calls have ended", ended)
	}
}

// TestT1: what show and hex tell of a module make it once more.
func TestT1(t *testing.T) {
	dice := rand.New(rand.NewSource(246))
	shown := 0
	for range 500 {
		l := strings.Join(units(dice, 12), "\n")
		ahead, _, _ := shell.Run(l)
		text, _, _ := shell.Run(l + "\nshow m")
		digits, _, _ := shell.Run(l + "\nhex m")
		text, digits = strings.TrimPrefix(text, ahead), strings.TrimPrefix(digits, ahead)
		if strings.HasPrefix(text, "error") {
			continue
		}
		shown++
		got, line, e := shell.Run("asm a\n" + text + "module b " + digits + "show a\nshow b\nhex a\nhex b")
		if want := "ok\nok\n" + text + text + digits + digits; got != want || line != 0 || e != api.OK {
			t.Fatalf("T1: %q, %q: once more %q, want %q", text, digits, got, want)
		}
	}
	if shown < 100 {
		t.Errorf("T1: %d modules are shown", shown)
	}
}

// TestT6: what form tells is a source that form tells again, and by which a module comes to the same bytes.
func TestT6(t *testing.T) {
	for _, s := range sources {
		formed, _, _ := shell.Run("form\n" + s + "\n.")
		if strings.HasPrefix(formed, "error") {
			continue
		}
		again, _, _ := shell.Run("form\n" + formed)
		if again != formed {
			t.Errorf("T6: %q is formed %q, and again %q", s, formed, again)
		}
		a, _, _ := shell.Run("source m\n" + s + "\n.\nhex m")
		b, _, _ := shell.Run("source m\n" + formed + "hex m")
		if strings.HasPrefix(a, "ok") && a != b {
			t.Errorf("T6: %q is compiled to %q; its form to %q", s, a, b)
		}
	}
}

// TestT5: entries come to one digest, however they came about.
func TestT5(t *testing.T) {
	dice := rand.New(rand.NewSource(247))
	digests := map[string]string{}
	for range 800 {
		s := "source m\nexport fn put(k, v) { save(k, v); } export fn lose(k) { drop(k); }\n.\n"
		for range dice.Intn(6) {
			s += oneOf(dice, "call m put 999 ["+randomKey(dice)+", "+oneOf(dice, "1", "2")+"]", "call m lose 99 ["+randomKey(dice)+"]", "call m put 30 ["+randomKey(dice)+", 3]") + "\n"
		}
		ahead, _, _ := shell.Run(s)
		entries, _, _ := shell.Run(s + "entries")
		digest, _, _ := shell.Run(s + "digest")
		entries, digest = strings.TrimPrefix(entries, ahead), strings.TrimPrefix(digest, ahead)
		if was, there := digests[entries]; there && was != digest {
			t.Fatalf("T5: %q has the digests %q and %q", entries, was, digest)
		}
		digests[entries] = digest
	}
	other := map[string]bool{}
	for _, d := range digests {
		other[d] = true
	}
	if len(other) != len(digests) || len(other) < 20 {
		t.Errorf("T5: %d states have %d digests", len(digests), len(other))
	}
}

// TestR1: every text ends.
func TestR1(t *testing.T) {
	dice := rand.New(rand.NewSource(248))
	for range 3000 {
		b := make([]byte, dice.Intn(60))
		dice.Read(b)
		meetModel(t, string(b))
	}
	var endless api.Value
	for range 8 {
		endless = api.Value{Kind: api.Array, L: []api.Value{endless}}
	}
	for _, s := range []string{
		strings.Repeat("\n", 65536), strings.Repeat("x", 65536), strings.Repeat("\x00", 65536), strings.Repeat("form\n", 13000), "form\n" + strings.Repeat(".\n", 30000),
		"get " + strings.Repeat("[", 65000), "get " + strings.Repeat(`{"": `, 13000), `get "` + strings.Repeat("k", 65000) + `"`, "call m f 9 " + strings.Repeat("9", 65000),
		"call m f 9 [" + value.Print(endless) + "]", "module m " + strings.Repeat("00", 32000), "batch " + strings.Repeat("9", 65000), strings.Repeat(" ", 65000) + "modules", "batch" + strings.Repeat(" ", 65000) + "1",
		"source " + strings.Repeat("m", 60000) + "\n.", "form\n" + strings.Repeat("(", 65000) + "\n.", "asm m\n.const " + strings.Repeat("[", 65000) + "\n.", "asm m\n" + strings.Repeat(".func 0 0 1\n", 5000) + ".",
	} {
		got, want := told(s), modelTold(s)
		if got != want {
			t.Errorf("R1: %.40q tells %.100q, want %.100q", s, got, want)
		}
	}
}

// TestR4: what Run tells hangs on the script alone: told again, and side by side, it is the same.
func TestR4(t *testing.T) {
	dice := rand.New(rand.NewSource(249))
	var scripts, first []string
	for range 50 {
		scripts = append(scripts, strings.Join(units(dice, 15), "\n"))
		first = append(first, told(scripts[len(scripts)-1]))
	}
	var all sync.WaitGroup
	for g := range 8 {
		all.Go(func() {
			for i := range scripts {
				at := (i*7 + g*13) % len(scripts)
				if got := told(scripts[at]); got != first[at] {
					t.Errorf("R4: %q tells %q, then %q", scripts[at], first[at], got)
				}
			}
		})
	}
	all.Wait()
}
