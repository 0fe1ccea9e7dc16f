package eval_test

import (
	"fmt"
	"math"
	"math/rand"
	"reflect"
	"runtime/debug"
	"slices"
	"strings"
	"sync"
	"testing"
	"unsafe"

	"scruple/api"
	"scruple/check"
	"scruple/eval"
	"scruple/parse"
	"scruple/print"
	"scruple/store"
	"scruple/value"
)

// TestP201Variables: each name is the variable that is visible, in the frame that is innermost.
func TestP201Variables(t *testing.T) {
	for source, want := range map[string]string{
		`export fn f() { let a = 1; let b = a; a = 2; return [a, b]; }`:                                                                                                             "[2, 1]",
		`export fn f() { let a = 1; if (a == 1) { let b = 2; a = b; } let b = 3; return [a, b]; }`:                                                                                  "[2, 3]",
		`export fn f() { let s = []; if (true) { let a = 1; s = push(s, a); } if (true) { let a = 2; s = push(s, a); } return s; }`:                                                 "[1, 2]",
		`export fn f() { let a; if (true) { a = 1; } else { a = 2; } let b = a; a = 3; return [a, b]; }`:                                                                            "[3, 1]",
		`export fn f() { let s = 0; let i = 0; while (i < 3) { let x; if (i == 1) { x = 10; } else { x = 1; } s = s + x; i = i + 1; } return s; }`:                                  "12",
		`export fn f() { let a = [1]; let b = a; a = push(a, 2); b = change(b, 0, 5); return [a, b]; }`:                                                                             "[[1, 2], [5]]",
		`export fn f() { let a = 1; g(a); return a; } fn g(a) { a = 2; let b = a; }`:                                                                                                "1",
		`export fn f() { let a = 1; return [g(), a]; } fn g() { let a = 2; return a; }`:                                                                                             "[2, 1]",
		`export fn f() { return g(5); } fn g(n) { if (n < 2) { return 1; } let m = n - 1; let r = g(m); return n * r + m * 0; }`:                                                    "120",
		`export fn f() { return [g(2), h(3)]; } fn g(n) { if (n == 0) { return []; } return push(h(n - 1), n); } fn h(n) { if (n == 0) { return []; } return push(g(n - 1), -n); }`: "[[-1, 2], [-1, 2, -3]]",
		`export fn f() { let len = 3; let f = len(("abc")); return [len, f, {len: len}.len]; }`:                                                                                     "[3, 3, 3]",
		`export fn f() { let a = 1; a = a + (a + 1) * 10; return a; }`:                                                                                                              "21",
		`export fn f() { let a = "x"; a = a + g(a); return a; } fn g(a) { a = a + a; return a; }`:                                                                                   `"xxx"`,
		`export fn f() { let a = 7; while (a > 5) { let b = a; a = b - 1; } return a; }`:                                                                                            "5",
	} {
		o, e := eval.Run(tree(t, source), "f", nil, store.New(), 10000)
		if got := value.Print(o.Value); e != api.OK || got != want {
			t.Errorf("P20.1: %s: %s, %d; want %s", source, told(o), e, want)
		}
		ends(t, source, 10000, fmt.Sprint(want, " ", o.Left))
	}
}

// TestP201Order: what stands first is done first, and what stands behind a trap is not done.
func TestP201Order(t *testing.T) {
	for _, form := range []string{
		"%1; %2; %3;", "return [%1, %2, %3];", "return {b: %1, a: %2, c: %3};", "return g(%1, %2, %3);", "return change(%1, %2, %3);",
		"return %1 == (%2 == %3);", "return (%1 == %2) == %3;", "let a = %1; a = %2; return %3;", "if (kind(%1) == 0) { %2; } %3;", "if (kind(%1) == 1) { } else { %2; } %3;",
		"if (kind(%1) == 1) { } else if (kind(%2) == 0) { %3; }", "while (kind(%1) == 0) { %2; break; } %3;", "%1; return kind(%2) == 0 && kind(%3) == 0;",
		"%1; return kind(%2) == 1 || kind(%3) == 0;", "return [%1, [%2], %3];", "%1; return [len([%2, 2]), %3];",
		"return {k: {k: %1}, l: [%2]}.k == %3;",
	} {
		full := form
		for _, n := range []string{"1", "2", "3"} {
			full = strings.Replace(full, "%"+n, fmt.Sprintf(`save("%s", load("n"))`, n), 1)
		}
		for stop := range 4 {
			s := full
			if stop > 0 {
				s = strings.Replace(s, fmt.Sprintf(`save("%d"`, stop), "save(abort(0)", 1)
			}
			n := tree(t, "export fn f() { "+s+" } fn g(a, b, c) { }")
			st := store.New()
			o, e := eval.Run(n, "f", nil, st, 10000)
			want := strings.Split("1 unit, 2 unit, 3 unit|| 1 unit|1 unit, 2 unit", "|")[stop]
			has(t, st, strings.TrimSpace(want))
			if e != api.OK || stop > 0 && o.Trap != api.TrapAbort {
				t.Errorf("P20.1: %s: %s, %d", s, told(o), e)
			}
			if w := newModel(n, nil).run("f", nil, 10000); told(o) != told(w) {
				t.Errorf("P20.1: %s: %s; want %s", s, told(o), told(w))
			}
		}
	}
}

// TestP201Depth: 32 frames, and no more; a call that has returned leaves room again.
func TestP201Depth(t *testing.T) {
	deep := `export fn f(n) { if (n == 1) { return 0; } return f(n - 1) + 1; }`
	for n, want := range map[int64]string{1: "0", 2: "1", 31: "30", 32: "31", 33: "trap4", 34: "trap4"} {
		o, e := eval.Run(tree(t, deep), "f", []api.Value{number(n)}, store.New(), 10000)
		if e != api.OK || !strings.HasPrefix(told(o), want+" ") {
			t.Errorf("P20.1: %d frames: %s, %d", n, told(o), e)
		}
		ends(t, deep, 10000, fmt.Sprint(want, " ", o.Left), number(n))
	}
	ends(t, `export fn f() { return f(); }`, 256, "trap4 0")
	ends(t, `export fn f() { return f(); }`, 255, "spent 0")
	ends(t, `export fn f() { return g(f()); } fn g(a) { save("k", 1); }`, 999, "trap4 743")
	ends(t, `export fn f() { return g(1 / 0); } fn g(a) { return f(); }`, 999, "trap1 994")
	s := `export fn f() { let i = 0; while (i < 40) { g(); i = i + 1; } return g(); } fn g() { return h() + h(); } fn h() { return 1; }`
	o, e := eval.Run(tree(t, s), "f", nil, store.New(), 10000)
	if e != api.OK || value.Print(o.Value) != "2" {
		t.Errorf("P20.1: calls behind each other: %s, %d", told(o), e)
	}
	ends(t, s, 10000, told(o))
}

// row is a source's list of the same thing, so often.
func listing(thing string, count int) string {
	return strings.TrimSuffix(many(thing+", ", count), ", ")
}

// TestP201Many: array and record of more than 40 are trapped, when they are done and paid.
func TestP201Many(t *testing.T) {
	pairs := func(count int) string {
		var l []string
		for i := range count {
			l = append(l, fmt.Sprintf("k%d: unit", i))
		}
		return strings.Join(l, ", ")
	}
	for _, count := range []int{0, 1, 39, 40, 41, 42, 100, 500} {
		left, kind := int64(10000-count-2-count), "trap3"
		for _, s := range []string{"[" + listing("unit", count) + "]", "{" + pairs(count) + "}"} {
			n := tree(t, "export fn f() { return kind("+s+"); }")
			if count <= 40 {
				kind = "4"
				if s[0] == '{' {
					kind = "5"
				}
				runs(t, n, store.New(), 10000, fmt.Sprint(kind, " ", left-2))
				continue
			}
			runs(t, n, store.New(), 10000, fmt.Sprint(kind, " ", left))
			runs(t, n, store.New(), 10000-left, kind+" 0")
			runs(t, n, store.New(), 10000-left-1, "spent 0")
			if o := newModel(n, nil).run("f", nil, 10000); told(o) != fmt.Sprint(kind, " ", left) {
				t.Errorf("model: %d of them: %s", count, told(o))
			}
		}
	}
	ends(t, "export fn f() { return ["+listing("1", 41)+", 1 / 0]; }", 1000, "trap1 954")
	s := store.New()
	runs(t, tree(t, `export fn f() { return [`+listing("1", 41)+`, save("k", 1)]; }`), s, 1000, "trap3 887")
	has(t, s, "k 1")
	// Keys that are heavier than a value may be are none the less a Fields'.
	var heavy []string
	for i := range 63 {
		heavy = append(heavy, fmt.Sprintf(`"%032d": unit`, i))
	}
	runs(t, tree(t, "export fn f() { return {"+strings.Join(heavy[:40], ", ")+"}; }"), store.New(), 10000, told(returned(t, heavy[:40], 10000-40-42-1)))
	runs(t, tree(t, "export fn f() { return {"+strings.Join(heavy, ", ")+"}; }"), store.New(), 10000, fmt.Sprint("trap3 ", 10000-63-65))
}

// returned is an outcome with the Record of keys that are written so.
func returned(t *testing.T, pairs []string, left int64) api.Outcome {
	t.Helper()
	v := record("")
	for _, s := range pairs {
		v.K, v.L = append(v.K, s[1:33]), append(v.L, unit)
	}
	if !value.Right(v) {
		t.Fatalf("no record: %v", v)
	}
	return api.Outcome{Kind: api.Returned, Value: v, Left: left}
}

// TestP201Heavy: what weighs more than any gas pays is spent, however much more that is.
func TestP201Heavy(t *testing.T) {
	for _, v := range []api.Value{longText(2047), units(2047)} {
		for _, count := range []int{480, 487, 488, 489, 511, 512, 513, 600, 2000, 9000} {
			args := make([]api.Node, count)
			fields := make([]api.Node, count)
			for i := range args {
				args[i] = named("a")
				fields[i] = node(api.Pair, fmt.Sprint("k", i), named("a"))
			}
			for _, n := range []api.Node{node(api.List, "", args...), node(api.Fields, "", fields...)} {
				n = program([]api.Node{give(n)})
				n.Kids[0].Kids = append([]api.Node{node(api.Param, "a")}, n.Kids[0].Kids...)
				want := "spent 0"
				if left := int64(1000000 - count - 2 - 2048*count); left >= 0 {
					want = fmt.Sprint("trap3 ", left)
				}
				runs(t, n, store.New(), 1000000, want, v)
			}
		}
	}
}

// TestP201Store: what the store's functions give and cost, and what they refuse.
func TestP201Store(t *testing.T) {
	first := map[string]api.Value{"a": unit, "b": units(3), "c\x00": longText(2047), many("x", 32): number(5)}
	for _, row := range []struct {
		call string
		cost int64
		want string
		args []api.Value
	}{
		{"load(a)", 10 + 2 + 1, "unit", []api.Value{text("a"), unit}},
		{"load(a)", 10 + 2 + 4, "[unit, unit, unit]", []api.Value{text("b"), unit}},
		{"load(a)", 10 + 3, "unit", []api.Value{text("ab"), unit}},
		{"load(a)", 10 + 33 + 1, "5", []api.Value{longText(32), unit}},
		{"load(a)", 10 + 34, "trap9", []api.Value{longText(33), unit}},
		{"load(a)", 10 + 2048, "trap9", []api.Value{longText(2047), unit}},
		{"load(a)", 10 + 1, "trap9", []api.Value{text(""), unit}},
		{"kind(load(a))", 10 + 3 + 2048 + 1, "3", []api.Value{text("c\x00"), unit}},
		{"save(a, b)", 20 + 2*(2+3), "unit", []api.Value{text("k"), text("xy")}},
		{"save(a, b)", 20 + 2*(2+2048), "unit", []api.Value{text("b"), units(2047)}},
		{"save(a, b)", 20 + 2*(33+1), "unit", []api.Value{longText(32), unit}},
		{"save(a, b)", 20 + 2*(34+1), "trap9", []api.Value{longText(33), unit}},
		{"save(a, b)", 20 + 2*(1+1), "trap9", []api.Value{text(""), unit}},
		{"drop(a)", 10 + 2, "true", []api.Value{text("a"), unit}},
		{"drop(a)", 10 + 3, "true", []api.Value{text("c\x00"), unit}},
		{"drop(a)", 10 + 2, "false", []api.Value{text("z"), unit}},
		{"drop(a)", 10 + 34, "trap9", []api.Value{longText(33), unit}},
		{"drop(a)", 10 + 1, "trap9", []api.Value{text(""), unit}},
		{"after(a)", 10 + 1, `"a"`, []api.Value{text(""), unit}},
		{"after(a)", 10 + 2, `"b"`, []api.Value{text("a"), unit}},
		{"after(a)", 10 + 3, `"b"`, []api.Value{text("ab"), unit}},
		{"after(a)", 10 + 2, `"c\x00"`, []api.Value{text("b"), unit}},
		{"after(a)", 10 + 3, value.Print(longText(32)), []api.Value{text("c\x00"), unit}},
		{"after(a)", 10 + 33, "unit", []api.Value{longText(32), unit}},
		{"after(a)", 10 + 34, "trap9", []api.Value{longText(33), unit}},
	} {
		visits(t, row.call, row.cost, row.want, first, row.args)
	}
	for _, v := range []api.Value{unit, truth(false), number(7), list(), list(text("a")), record(""), record("a", unit)} {
		w := weigh(v)
		visits(t, "load(a)", 10+w, "trap3", first, []api.Value{v, unit})
		visits(t, "save(a, b)", 20+2*w+2, "trap3", first, []api.Value{v, unit})
		visits(t, "drop(a)", 10+w, "trap3", first, []api.Value{v, unit})
		visits(t, "after(a)", 10+w, "trap3", first, []api.Value{v, unit})
	}
}

// visits does a call of a and b on a store, with enough gas, and with too little of it.
func visits(t *testing.T, call string, cost int64, want string, first map[string]api.Value, args []api.Value) {
	t.Helper()
	n := tree(t, "export fn f(a, b) { return "+call+"; }")
	cost++ // a
	if strings.Contains(call, "b") {
		cost++
	}
	behind := int64(10)
	if !strings.HasPrefix(want, "trap") {
		behind--
	}
	s, m := filled(t, first), newModel(n, first)
	runs(t, n, s, cost+10, fmt.Sprint(want, " ", behind), args...)
	if o := m.run("f", args, cost+10); told(o) != fmt.Sprint(want, " ", behind) || !sameEntries(s.Entries(), entriesOf(m.store)) {
		t.Errorf("P20.2: %s: the model %.100s; the store has %d entries, want %d", call, told(o), s.Len(), len(m.store))
	}
	s = filled(t, first)
	runs(t, n, s, cost-1, "spent 0", args...)
	if !sameEntries(s.Entries(), entriesOf(first)) {
		t.Errorf("P20.2: %s was done, and not paid", call)
	}
	byMachine(t, n, args, first, cost+10, fmt.Sprint(want, " ", behind))
}

// TestP201Full: what the store refuses is a trap, and changes nothing; what takes the place of something may be.
func TestP201Full(t *testing.T) {
	full := map[string]api.Value{}
	for n := range 128 {
		full[fmt.Sprintf("%03d", n)] = unit
	}
	n := tree(t, `export fn f(k, v) { return save(k, v); }`)
	s := filled(t, full)
	runs(t, n, s, 100, "trap9 68", text("new"), unit)
	runs(t, n, s, 100, "unit 65", text("127"), list(unit))
	if v, _ := s.Get("127"); s.Len() != 128 || !same(v, list(unit)) {
		t.Errorf("P20.2: %d entries", s.Len())
	}
	heavy := store.New()
	for i := range 15 {
		heavy.Put(fmt.Sprintf("%02d", i), longText(2047))
	}
	room := 32768 - heavy.Weight()
	runs(t, n, heavy, 9999, fmt.Sprint("trap9 ", 9999-28-2*(room-2)), text("zz"), longText(room-3))
	runs(t, n, heavy, 9999, fmt.Sprint("unit ", 9999-29-2*(room-3)), text("zz"), longText(room-4))
	if heavy.Weight() != 32768 {
		t.Errorf("P20.2: a weight of %d", heavy.Weight())
	}
	runs(t, n, heavy, 9999, "trap9 9969", text("a"), longText(1))
	// A store that no call made takes nothing.
	runs(t, n, &store.Store{}, 99, "trap9 71", text("a"), unit)
	runs(t, tree(t, `export fn f() { return [load("a"), drop("a"), after("a")]; }`), &store.Store{}, 99, "[unit, false, unit] 54")
}

// TestP202Stays: what the run has done stays however it has ended; the checkpoints are as they were.
func TestP202Stays(t *testing.T) {
	for end, kind := range map[string]int{"return 1;": api.Returned, "": api.Returned, "abort(1);": api.Trapped, "1 / 0;": api.Trapped, "g();": api.Trapped, "while (true) { }": api.Spent} {
		n := tree(t, `export fn f() { save("a", 1); drop("x"); `+end+` } fn g() { g(); }`)
		for open := range 4 {
			s := filled(t, map[string]api.Value{"x": number(3)})
			for range open {
				s.Checkpoint()
			}
			o, e := eval.Run(n, "f", nil, s, 1000)
			if e != api.OK || o.Kind != kind || s.Open() != open {
				t.Errorf("P20.2: %s: %s, %d; %d open, want %d", end, told(o), e, s.Open(), open)
			}
			has(t, s, "a 1")
			for i := range open {
				if i < open-1 {
					s.Commit()
				} else if e := s.Rollback(); e != api.OK {
					t.Errorf("P20.2: behind a Rollback: %d", e)
				} else {
					has(t, s, "x 3")
				}
			}
		}
	}
	// With each limit that is too small the run stops ahead of what it can't pay.
	n := tree(t, `export fn f() { save("a", "a"); save("b", "b"); drop("a"); return save("c", "c"); }`)
	for limit := range int64(115) {
		want, entries := "spent 0", ""
		if limit >= 107 { // 1 and 1, 28, 1; twice; 1, 12, 1; 1 and 1, 28; 1
			want = fmt.Sprint("unit ", limit-107)
		}
		switch {
		case limit >= 106:
			entries = `b "b", c "c"`
		case limit >= 75:
			entries = `b "b"`
		case limit >= 61:
			entries = `a "a", b "b"`
		case limit >= 30:
			entries = `a "a"`
		}
		s := store.New()
		runs(t, n, s, limit, want)
		has(t, s, entries)
	}
}

// memories are all lists' and texts' of a value.
func memories(v api.Value) []unsafe.Pointer {
	var out []unsafe.Pointer
	if cap(v.L) > 0 {
		out = append(out, unsafe.Pointer(unsafe.SliceData(v.L)))
	}
	if cap(v.K) > 0 {
		out = append(out, unsafe.Pointer(unsafe.SliceData(v.K)))
	}
	for _, s := range append([]string{v.S}, v.K...) {
		if s != "" {
			out = append(out, unsafe.Pointer(unsafe.StringData(s)))
		}
	}
	for _, x := range v.L {
		out = append(out, memories(x)...)
	}
	return out
}

// scribble writes into all lists of a value.
func scribble(v api.Value) {
	for k, x := range v.L[:cap(v.L)] {
		scribble(x)
		v.L[:cap(v.L)][k] = number(-99)
	}
	for k := range v.K[:cap(v.K)] {
		v.K[:cap(v.K)][k] = "scribbled"
	}
}

// TestP202NewMemory: what is answered is new memory, whatever it came from.
func TestP202NewMemory(t *testing.T) {
	rich := func() api.Value {
		return list(text("abc"), record("key other", list(number(1)), text("de")), list(), record(""))
	}
	word := strings.Clone("a word")
	n := tree(t, `export fn a(x) { return x; } export fn l(x) { return load("k"); } export fn p(x) { return [x, x]; } export fn q(x) { let y = x; return [load("k"), y]; }
		export fn c(x) { return "w"; } export fn s(x) { save("k", x); return x; } export fn d(x) { let y = [x, "w"]; return [y, y, {k: y}.k, g(y)]; } fn g(y) { return y; }`)
	lits := api.Value{}
	every(&n, func(n *api.Node) {
		if n.Kind == api.Lit && n.Val.S == "w" {
			n.Val.S = word
			lits.L = append(lits.L, n.Val)
		}
	})
	arg := rich()
	s := filled(t, map[string]api.Value{"k": rich()})
	pair := list(rich(), text(word))
	wants := map[string]api.Value{"p": list(rich(), rich()), "q": list(rich(), rich()), "c": text(word), "d": list(pair, pair, pair, pair)}
	for range 3 {
		for _, name := range strings.Fields("a l p q c s d") {
			want, there := wants[name]
			if !there {
				want = rich()
			}
			o, e := eval.Run(n, name, []api.Value{arg}, s, 1000)
			if e != api.OK || o.Kind != api.Returned || !same(o.Value, want) {
				t.Fatalf("P20.2: %s: %s, %d", name, told(o), e)
			}
			all := memories(o.Value)
			for k, p := range all {
				if slices.Contains(all[:k], p) {
					t.Errorf("R3: %s: the answer holds one memory twice", name)
				}
				if slices.Contains(memories(arg), p) || slices.Contains(memories(lits), p) {
					t.Errorf("P20.2: %s: the answer shares memory with what was handed in", name)
				}
			}
			scribble(o.Value)
		}
	}
	if !same(arg, rich()) {
		t.Errorf("P20.2: the argument is changed")
	}
	scribble(arg)
	if v, _ := s.Get("k"); !same(v, rich()) {
		t.Errorf("R3: the store keeps an argument")
	}
}

// every calls do with each node of a tree, the outer ones first.
func every(n *api.Node, do func(n *api.Node)) {
	do(n)
	for i := range n.Kids {
		every(&n.Kids[i], do)
	}
}

// copied is a tree in memory of its own.
func copied(n api.Node) api.Node {
	kids := make([]api.Node, len(n.Kids))
	for i, kid := range n.Kids {
		kids[i] = copied(kid)
	}
	n.Kids = kids
	return n
}

// roomy is a tree whose lists have spare room, filled with nodes that must stay.
func roomy(n api.Node) api.Node {
	kids := make([]api.Node, 0, len(n.Kids)+2)
	for _, kid := range n.Kids {
		kids = append(kids, roomy(kid))
	}
	_ = append(kids, named("spare"), named("room"))
	n.Kids = kids
	return n
}

// whole is a tree with its spare room, as a text.
func whole(n api.Node) string {
	var out strings.Builder
	fmt.Fprintf(&out, "(%d %q %v %t %d", n.Kind, n.Text, n.Val, n.Flag, n.At)
	for _, kid := range n.Kids[:cap(n.Kids)] {
		out.WriteString(whole(kid))
	}
	return out.String() + ")"
}

// TestP202Stay: trees and arguments stay as they are, spare room too.
func TestP202Stay(t *testing.T) {
	dice := rand.New(rand.NewSource(2001))
	for range 2000 {
		n, args := grown(dice)
		want := outcome(t, n, "f", args, nil, 2000)
		n = roomy(n)
		before := whole(n)
		spare := append(slices.Clone(args), number(77), number(78))
		again := value.Print(list(args...))
		o := outcome(t, n, "f", spare[:len(args)], nil, 2000)
		if whole(n) != before || value.Print(list(args...)) != again || !same(list(spare[len(args):]...), list(number(77), number(78))) {
			t.Fatalf("P20.2: %s of %s: something was written into", brief(n), again)
		}
		if !sameOutcome(o, want) {
			t.Fatalf("R3: %s: %s; without spare room %s", brief(n), told(o), told(want))
		}
		every(&n, func(n *api.Node) {
			if len(n.Kids) == 0 {
				n.Kids = nil
				n.Val.L, n.Val.K = []api.Value{}, []string{}
			}
		})
		if o := outcome(t, n, "f", args, nil, 2000); !sameOutcome(o, want) {
			t.Fatalf("R3: %s: %s; with other empty lists %s", brief(n), told(o), told(want))
		}
	}
	lists := []api.Value{number(1), text("a"), number(77)}
	args := []api.Value{{Kind: api.Array, L: lists[:2]}, number(2), number(78)}
	s := store.New()
	runs(t, tree(t, `export fn f(a, b) { a = push(a, b); change(a, 1, a); b = 1; save("k", a); return a; }`), s, 1000, `[1, "a", 2] 932`, args[:2]...)
	if !same(list(args...), list(list(number(1), text("a")), number(2), number(78))) || !same(lists[2], number(77)) {
		t.Errorf("P20.2: the arguments are changed: %v, %v", args, lists)
	}
	lists[0] = unit
	has(t, s, `k [1, "a", 2]`)
}

func sameOutcome(a, b api.Outcome) bool {
	return a.Kind == b.Kind && a.Trap == b.Trap && a.Left == b.Left && same(a.Value, b.Value)
}

// outcome is that of a run without an error, on a store of its own.
func outcome(t *testing.T, n api.Node, entry string, args []api.Value, first map[string]api.Value, limit int64) api.Outcome {
	t.Helper()
	o, e := eval.Run(n, entry, args, filled(t, first), limit)
	if e != api.OK {
		t.Fatalf("P20.1: %s: %d", brief(n), e)
	}
	return o
}

// agree runs f of a tree on a store of these entries, and holds outcome and store against the model's.
func agree(t *testing.T, n api.Node, args []api.Value, first map[string]api.Value, limit int64) (*model, api.Outcome) {
	t.Helper()
	s, m := filled(t, first), newModel(n, first)
	want := m.run("f", args, limit)
	o, e := eval.Run(n, "f", args, s, limit)
	if e != api.OK || !sameOutcome(o, want) || !sameEntries(s.Entries(), entriesOf(m.store)) {
		t.Fatalf("P20.1: %s of %s with %d: %s, %d; want %s; the store has %v, want %v", brief(n), value.Print(list(args...)), limit, told(o), e, told(want), s.Entries(), m.store)
	}
	return m, o
}

// sequences are all rows of at most so many statements, each of which is one of some.
func sequences(most int, some []string) []string {
	all := []string{""}
	last := all
	for range most {
		var longer []string
		for _, s := range last {
			for _, one := range some {
				longer = append(longer, s+one)
			}
		}
		all = append(all, longer...)
		last = longer
	}
	return all
}

// TestP201EveryWay: every function of a few statements, by every way through it.
func TestP201EveryWay(t *testing.T) {
	simple := []string{"b = push(b, 1); ", "break; ", "continue; ", "return 1; ", "a = !a; "}
	some := slices.Clone(simple)
	for _, one := range sequences(2, simple) {
		some = append(some, "while (a) { "+one+"} ", "if (a) { "+one+"} ", "if (!a) { a = !a; "+one+"} else { a; } ")
	}
	for _, one := range sequences(1, simple) {
		for _, two := range sequences(1, simple) {
			some = append(some, "if (a) { "+one+"} else { "+two+"} ", "if (a) { "+one+"} else if (!a) { "+two+"} else { abort(1); } ", "while (a) { if (a) { "+one+"} "+two+"} ")
		}
	}
	count := 0
	for _, row := range sequences(2, some) {
		for _, around := range []string{"%", "let n = 0; while (n < 3) { n = n + 1; % b = push(b, n); } "} {
			n := tree(t, "export fn f(a) { let b = []; "+strings.Replace(around, "%", row, 1)+"return b; }")
			if _, e := check.Program(n); e != api.OK {
				continue
			}
			count++
			for _, a := range []api.Value{truth(false), truth(true)} {
				agree(t, n, []api.Value{a}, nil, 300)
			}
		}
	}
	if count < 20000 {
		t.Errorf("only %d functions", count)
	}
}

// first is a store that is empty, small, or nearly full by count or by weight.
func firstEntries(dice *rand.Rand) map[string]api.Value {
	out := map[string]api.Value{}
	switch dice.Intn(4) {
	case 1:
		out["a"], out["k"] = number(5), list(text("x"))
	case 2:
		for i := range 128 {
			out[fmt.Sprintf("c%03d", i)] = unit
		}
	case 3:
		for i := range 16 {
			out[fmt.Sprintf("d%02d", i)] = longText(2040)
		}
	}
	return out
}

// TestP201Grown: random programs run as the model does, and as vm does with the modules that they are.
func TestP201Grown(t *testing.T) {
	dice := rand.New(rand.NewSource(2002))
	seen, done := map[string]int{}, map[string]int{}
	deepest, modules := 0, 0
	for range 12000 {
		n, args := grown(dice)
		first, limit := firstEntries(dice), int64(dice.Intn([]int{1000, 8000}[dice.Intn(2)]))
		m, o := agree(t, n, args, first, limit)
		seen[fmt.Sprint(o.Kind, " ", o.Trap)]++
		for op, count := range m.done {
			done[op] += count
		}
		deepest = max(deepest, m.depth)
		if byMachine(t, n, args, first, limit, told(o)) {
			modules++
		}
		if t.Failed() {
			return
		}
		limits(t, n, args, first, limit, o)
	}
	for _, end := range strings.Split("1 0,2 1,2 2,2 3,2 4,2 5,2 6,2 7,2 8,2 9,3 0", ",") {
		if seen[end] < 5 {
			t.Errorf("only %d runs ended so: %s (%v)", seen[end], end, seen)
		}
	}
	for op := range table {
		if done[op] < 50 {
			t.Errorf("%s was done only %d times", op, done[op])
		}
	}
	if deepest != 32 || modules < 8000 {
		t.Errorf("at most %d frames, %d modules", deepest, modules)
	}
}

// limits asks for the same run with other limits: if it is not spent, it needs so much gas and no less.
func limits(t *testing.T, n api.Node, args []api.Value, first map[string]api.Value, limit int64, o api.Outcome) {
	t.Helper()
	if o.Kind == api.Spent || o.Trap == api.TrapArity {
		return
	}
	need := limit - o.Left
	for _, other := range []int64{0, need - 1, need, need + 1, api.MaxGas} {
		if other < 0 {
			continue
		}
		want := api.Outcome{Kind: api.Spent}
		if other >= need {
			want = o
			want.Left = other - need
		}
		if got := outcome(t, n, "f", args, first, other); !sameOutcome(got, want) {
			t.Fatalf("P20.1: %s with %d: %s; with %d: %s", brief(n), limit, told(o), other, told(got))
		}
	}
}

// TestSame: a run does not hang on places, on functions that are not called, on other exports, nor on the layout.
func TestSame(t *testing.T) {
	dice := rand.New(rand.NewSource(2003))
	read := 0
	for range 3000 {
		n, args := grown(dice)
		first, limit := firstEntries(dice), int64(dice.Intn(3000))
		want := outcome(t, n, "f", args, first, limit)
		other := copied(n)
		every(&other, func(n *api.Node) { n.At = []int{0, -1, math.MinInt, math.MaxInt, dice.Int()}[dice.Intn(5)] })
		for i := 1; i < len(other.Kids); i++ {
			other.Kids[i].Flag = dice.Intn(2) == 0
		}
		more, _ := grown(dice)
		for i, fn := range more.Kids {
			fn.Text = fmt.Sprint("zz", i)
			with := copied(other)
			with.Kids = slices.Insert(with.Kids, dice.Intn(len(with.Kids)+1), fn)
			if _, e := check.Program(with); e == api.OK {
				other = with
			}
		}
		if o := outcome(t, other, "f", args, first, limit); !sameOutcome(o, want) {
			t.Fatalf("%s: %s; and as %s: %s", brief(n), told(want), brief(other), told(o))
		}
		s, e := print.Program(n)
		if e != api.OK {
			t.Fatalf("print.Program: %d", e)
		}
		s = strings.NewReplacer("{\n", "{//x\n ", ";\n", " ; ", " + ", "+", ", ", ",\n").Replace(s)
		if strings.Contains(s, `"`) && strings.Contains(s, ",\n") {
			s, _ = print.Program(n) // a blank may stand between quotes
		}
		if again, _, e := parse.Program(s); e == api.OK {
			read++
			if o := outcome(t, again, "f", args, first, limit); !sameOutcome(o, want) {
				t.Fatalf("%s: %s; read again: %s", s, told(want), told(o))
			}
		}
	}
	if read < 2000 {
		t.Errorf("only %d were read", read)
	}
}

// spoilt is a tree of which a part was changed.
func spoilt(dice *rand.Rand, n api.Node) api.Node {
	n = copied(n)
	var all []*api.Node
	every(&n, func(n *api.Node) { all = append(all, n) })
	one, other := all[dice.Intn(len(all))], *all[dice.Intn(len(all))]
	switch dice.Intn(7) {
	case 0:
		one.Kind = dice.Intn(25) - 1
	case 1:
		one.Text = []string{"", "a", "if", "len", "-", "&&", many("k", 21), many("k", 33)}[dice.Intn(8)]
	case 2:
		one.Flag = !one.Flag
	case 3:
		one.Val = []api.Value{{Kind: api.Int, N: -1}, {Kind: api.Array}, {N: 1}, {Kind: 9}, {S: "x"}, {K: []string{""}}}[dice.Intn(6)]
	case 4:
		one.Kids = append(slices.Clone(one.Kids), copied(other))
	case 5:
		if len(one.Kids) > 0 {
			one.Kids = one.Kids[:len(one.Kids)-1]
		}
	case 6:
		*one = copied(other)
	}
	return n
}

// TestR1Spoilt: whatever a tree is, it is refused, or runs.
func TestR1Spoilt(t *testing.T) {
	dice := rand.New(rand.NewSource(2004))
	seen := map[api.Errno]int{}
	for range 20000 {
		n, args := grown(dice)
		n = spoilt(dice, n)
		o, e := eval.Run(n, "f", args, store.New(), 1000)
		seen[e]++
		_, wrong := check.Program(n)
		if refused := e == api.ErrEvalForm; refused != (wrong != api.OK) || e != api.OK && !reflect.DeepEqual(o, api.Outcome{}) {
			t.Fatalf("P20.1: %s: %s, %d", brief(n), told(o), e)
		}
		if e == api.OK {
			agree(t, n, args, nil, 1000)
		}
	}
	if seen[api.OK] < 1000 || seen[api.ErrEvalForm] < 1000 || seen[api.ErrEvalEntry] < 10 || len(seen) != 3 {
		t.Errorf("errors: %v", seen)
	}
}

// chained is a row of nodes that stand in one another, each the first Kid of the next one.
func chained(first api.Node, count int, kind int, text string, others ...api.Node) api.Node {
	for range count {
		first = node(kind, text, append([]api.Node{first}, others...)...)
	}
	return first
}

// TestR1Deep: trees that are as deep as may be run in a small part of the stack that Go gives, frame in frame.
func TestR1Deep(t *testing.T) {
	defer debug.SetMaxStack(debug.SetMaxStack(1 << 26))
	self, one := node(api.Call, "f"), lit(number(1))
	for _, n := range []api.Node{
		chained(self, 9990, api.Binary, "+", one),
		chained(self, 9990, api.Binary, "&&", one),
		chained(self, 9990, api.Binary, "||", one),
		chained(self, 9990, api.At, "", one),
		chained(self, 19990, api.Dot, "k"),
		chained(chained(self, 9980, api.Dot, "k"), 5000, api.At, "", one),
	} {
		runs(t, program([]api.Node{give(n)}), store.New(), 1000, "trap4 744")
	}
	truths := program([]api.Node{give(chained(lit(truth(true)), 9990, api.Binary, "&&", lit(truth(true))))})
	runs(t, truths, store.New(), 1000000, fmt.Sprint("true ", 1000000-1-9990*5-1))
	sum := program([]api.Node{give(chained(lit(number(0)), 9990, api.Binary, "+", one))})
	runs(t, sum, store.New(), 1000000, fmt.Sprint("9990 ", 1000000-1-9990*5-1))
	fields := program([]api.Node{give(chained(node(api.Call, "g"), 19980, api.Dot, "k"))}, node(api.Fn, "g", block()))
	runs(t, fields, store.New(), 1000, "trap3 988")
	// Each If stands in the else of the one ahead; the call stands in the last Block, or in the last condition.
	last := node(api.If, "", lit(truth(true)), block(do(self)))
	for range 4900 {
		last = node(api.If, "", lit(truth(false)), block(), last)
	}
	runs(t, program([]api.Node{last}), store.New(), 1000000, fmt.Sprint("trap4 ", 1000000-32*(4900*3+3+8)))
	last = node(api.If, "", self, block())
	for range 4900 {
		last = node(api.If, "", lit(truth(false)), block(), last)
	}
	runs(t, program([]api.Node{last}), store.New(), 1000000, fmt.Sprint("trap4 ", 1000000-32*(4900*3+8)))
	// As many as may be are open around the call: false || true && !(false || true && !( .. f()))
	inner := self
	for range 11 {
		inner = node(api.Binary, "||", lit(truth(false)), node(api.Binary, "&&", lit(truth(true)), node(api.Unary, "!", inner)))
	}
	runs(t, program([]api.Node{give(inner)}), store.New(), 1000000, fmt.Sprint("trap4 ", 1000000-32*(11*6+8)))
}

// lets are so many Lets without an expression.
func lets(count int) []api.Node {
	var l []api.Node
	for i := range count {
		l = append(l, node(api.Let, fmt.Sprint("v", i)))
	}
	return l
}

// TestP201Great: what is more than a module may have runs none the less, and in good time.
func TestP201Great(t *testing.T) {
	forever := node(api.While, "", lit(truth(true)), block(lets(19980)...))
	runs(t, program([]api.Node{forever}), store.New(), 1000000, "spent 0")
	runs(t, program(append(lets(19980), give(lit(number(1))))), store.New(), 2, "1 0")
	// Locals, constants, code, functions, operands.
	var body []api.Node
	sum := lit(number(0))
	for i := range 500 {
		body = append(body, node(api.Let, fmt.Sprint("v", i), lit(number(int64(i)))))
	}
	for i := range 500 {
		sum = node(api.Binary, "+", sum, named(fmt.Sprint("v", i)))
	}
	runs(t, program(append(body, give(sum))), store.New(), 10000, fmt.Sprint("124750 ", 10000-500*2-1-500*5-1))
	body = nil
	for range 2000 {
		body = append(body, do(lit(number(1))))
	}
	runs(t, program(append(body, give(lit(unit)))), store.New(), 10000, "unit 5998")
	f := program([]api.Node{give(node(api.Call, "g0"))})
	for i := range 20 {
		fn := node(api.Fn, fmt.Sprint("g", i), block(give(node(api.Call, fmt.Sprint("g", i+1)))))
		f.Kids = append(f.Kids, fn)
	}
	for i := 20; i < 3000; i++ {
		f.Kids = append(f.Kids, node(api.Fn, fmt.Sprint("g", i), block(give(lit(number(int64(i)))))))
	}
	runs(t, f, store.New(), 1000, fmt.Sprint("20 ", 1000-21*9-2))
	nested := lit(unit)
	for range 5 {
		nested = node(api.List, "", append(slices.Repeat([]api.Node{lit(unit)}, 30), nested)...)
	}
	m, o := agree(t, program([]api.Node{give(nested)}), nil, nil, 10000)
	if m.high < 150 || o.Kind != api.Returned {
		t.Errorf("P20.1: %d operands: %s", m.high, told(o))
	}
}

// TestP201Long: runs of as many steps as may be come to their end.
func TestP201Long(t *testing.T) {
	for _, s := range []string{
		`export fn f(a) { while (true) { } }`, `export fn f(a) { let i = 0; while (true) { i = i + 1; } }`, `export fn f(a) { while (true) { let b = a; a = b; } }`,
		`export fn f(a) { while (true) { g(a); } } fn g(a) { return a; }`, `export fn f(a) { while (true) { a == a; kind(a); } }`, `export fn f(a) { while (true) { save("k", a); load("k"); } }`,
		`export fn f(a) { while (true) { digest(a); [a]; {a: a}; } }`, `export fn f(a) { while (true) { continue; } }`, `export fn f(a) { while (true) { while (true) { break; } } }`,
	} {
		for _, a := range []api.Value{number(1), units(2040)} {
			o := outcome(t, tree(t, s), "f", []api.Value{a}, nil, 1000000)
			if told(o) != "spent 0" && told(o)[:5] != "trap5" {
				t.Errorf("P20.1: %s: %s", s, told(o))
			}
		}
	}
}

// TestR4Apart: runs have nothing in common but the store that they are given.
func TestR4Apart(t *testing.T) {
	dice := rand.New(rand.NewSource(2005))
	type one struct {
		n    api.Node
		args []api.Value
		want string
	}
	var all []one
	for range 300 {
		n, args := grown(dice)
		all = append(all, one{n, args, told(outcome(t, n, "f", args, nil, 2000))})
	}
	var group sync.WaitGroup
	for worker := range 8 {
		group.Go(func() {
			dice := rand.New(rand.NewSource(int64(worker)))
			for range 2000 {
				x := all[dice.Intn(len(all))]
				if o, e := eval.Run(x.n, "f", x.args, store.New(), 2000); e != api.OK || told(o) != x.want {
					t.Errorf("R4: %s: %s, %d; and was %s", brief(x.n), told(o), e, x.want)
					return
				}
			}
		})
	}
	group.Wait()
	n := tree(t, `export fn f() { let n = load("n"); if (kind(n) == 0) { n = 0; } return save("n", n + 1); }`)
	s, other := store.New(), store.New()
	for range 3 {
		outcomeOn(t, n, s)
	}
	outcomeOn(t, n, other)
	has(t, s, "n 3")
	has(t, other, "n 1")
}

// outcomeOn runs f on a store.
func outcomeOn(t *testing.T, n api.Node, s *store.Store) {
	t.Helper()
	if o, e := eval.Run(n, "f", nil, s, 1000); e != api.OK || o.Kind != api.Returned {
		t.Errorf("P20.1: %s: %s, %d", brief(n), told(o), e)
	}
}
