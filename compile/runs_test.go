package compile_test

import (
	"fmt"
	"math/rand"
	"reflect"
	"slices"
	"strings"
	"sync"
	"testing"
	"unsafe"

	"scruple/api"
	"scruple/check"
	"scruple/compile"
	"scruple/eval"
	"scruple/module"
	"scruple/parse"
	"scruple/print"
	"scruple/store"
	"scruple/value"
	"scruple/vm"
)

// agree holds what Program answers against the model.
func agree(t *testing.T, n api.Node) (api.Module, api.Errno) {
	t.Helper()
	m, at, e := compile.Program(n)
	want, place, code := modelled(n)
	if e != code || at != place {
		t.Errorf("P21.1: Program of %s: %d at %d, want %d at %d", brief(n), e, at, code, place)
	} else if whole(m) != whole(want) {
		t.Errorf("P21.1: Program of %s:\n got %s\nwant %s", brief(n), whole(m), whole(want))
	}
	if e == api.OK {
		holds(t, brief(n), m)
	}
	return m, e
}

// TestP211Grown: random trees, small ones and such as pass limits, come to what the model says.
func TestP211Grown(t *testing.T) {
	dice := rand.New(rand.NewSource(2101))
	seen := map[api.Errno]int{}
	for i := range 800 {
		functions, size, broad, numbers := 1+dice.Intn(4), 20+dice.Intn(200), 4, int64(5)
		switch i % 6 {
		case 1:
			functions = 20 + dice.Intn(6)
			size = 30
		case 2:
			size = 1200 + dice.Intn(800)
			functions = 2
		case 3:
			broad = 60
		case 4:
			numbers = 1 << 62
			size = 300
		case 5:
			functions, size, broad, numbers = 1+dice.Intn(24), dice.Intn(600), 2+dice.Intn(30), int64(1+dice.Intn(100))
		}
		_, e := agree(t, grown(dice, functions, size, broad, numbers))
		seen[e]++
		if t.Failed() {
			return
		}
	}
	for _, e := range []api.Errno{api.OK, api.ErrCompileFuncs, api.ErrCompileLocals, api.ErrCompileConsts, api.ErrCompileCode, api.ErrCompileStack} {
		if seen[e] < 10 {
			t.Errorf("%d came only %d times (%v)", e, seen[e], seen)
		}
	}
}

// stored is a store with some entries.
func stored(t *testing.T) *store.Store {
	t.Helper()
	s, e := store.From([]api.Entry{{Key: "i0", Value: number(3)}, {Key: "k", Value: api.Value{Kind: api.Record, K: []string{"z"}, L: []api.Value{number(1)}}}, {Key: "z"}})
	if e != api.OK {
		t.Fatalf("store.From: %d", e)
	}
	return s
}

// told is an outcome, and the store behind it.
func told(o api.Outcome, e api.Errno, s *store.Store) string {
	out := fmt.Sprint(e, " ", o.Kind, " ", o.Trap, " ", o.Left, " ", value.Print(o.Value))
	for _, x := range s.Entries() {
		out += fmt.Sprintf(" %q %s", x.Key, value.Print(x.Value))
	}
	return out
}

// TestT3Runs: a module runs as its tree does.
func TestT3Runs(t *testing.T) {
	dice := rand.New(rand.NewSource(2102))
	seen, runs := map[string]int{}, 0
	for runs < 3000 {
		n := grown(dice, 1+dice.Intn(4), 40+dice.Intn(80), 5, 5)
		m, e := agree(t, n)
		if e != api.OK {
			continue
		}
		i, fault := vm.Load(m)
		if fault.Code != api.OK {
			t.Fatalf("T3: vm.Load of %s: %v", brief(n), fault)
		}
		var names []string
		for _, fn := range n.Kids {
			if !fn.Flag {
				continue
			}
			names = append(names, fn.Text)
			var args []api.Value
			for _, param := range fn.Kids[:len(fn.Kids)-1] {
				args = append(args, argument(dice, param.Text[0]))
			}
			limit := int64(dice.Intn([]int{200, 20000}[dice.Intn(2)]))
			byTree, byCode := stored(t), stored(t)
			o, e := eval.Run(n, fn.Text, args, byTree, limit)
			p, f := i.Run(fn.Text, args, byCode, limit)
			if want, got := told(o, e, byTree), told(p, f, byCode); got != want {
				t.Fatalf("T3: %s of %s with %d: %s; by eval %s", fn.Text, brief(n), limit, got, want)
			}
			seen[fmt.Sprint(p.Kind, " ", p.Trap)]++
			runs++
		}
		slices.Sort(names)
		if got := i.Entries(); !slices.Equal(got, names) {
			t.Fatalf("P21.1: the exports of %s are %v", brief(n), got)
		}
	}
	for _, end := range strings.Split("1 0,2 1,2 2,2 3,2 4,2 6,2 8,2 9,3 0", ",") {
		if seen[end] < 5 {
			t.Errorf("only %d runs ended so: %s (%v)", seen[end], end, seen)
		}
	}
}

// TestExamplesOfTheWhole: DOC.md's that are compiled.
func TestExamplesOfTheWhole(t *testing.T) {
	run := func(s, entry string, gas int64, args ...api.Value) string {
		m, at, e := compile.Source(s)
		i, fault := vm.Load(m)
		if e != api.OK || fault.Code != api.OK {
			t.Fatalf("%s: %d at %d, %v", s, e, at, fault)
		}
		st := store.New()
		o, e := i.Run(entry, args, st, gas)
		return told(o, e, st)
	}
	s := "export fn f(a) { return a + 1; }"
	for _, row := range []struct{ got, want string }{
		{run(s, "f", 100, number(41)), "error 0 1 0 93 42"},
		{run(s, "f", 7, number(41)), "error 0 1 0 0 42"},
		{run(s, "f", 6, number(41)), "error 0 3 0 0 unit"},
		{run(s, "f", 100, text("x")), "error 0 2 3 93 unit"},
		{run(s, "f", 100), "error 0 2 7 100 unit"},
		{run(`export fn g() { save("k", 1); return load("k"); }`, "g", 100), `error 0 1 0 56 1 "k" 1`},
	} {
		if row.got != row.want {
			t.Errorf("got %s, want %s", row.got, row.want)
		}
	}
}

// TestP212Source: parse's error and its place come first, then check's, then the limits.
func TestP212Source(t *testing.T) {
	for _, row := range []struct {
		s    string
		at   int
		code api.Errno
	}{
		{"fn f() {", 8, api.ErrParseToken},
		{"f", 0, api.ErrParseToken},
		{"fn f() { # }", 9, api.ErrLexByte},
		{"fn f() { 012; }", 9, api.ErrLexInt},
		{`fn f() { "x; }`, 9, api.ErrLexBytes},
		{"fn abcdefghijklmnopqrstuvwxyz() { }", 3, api.ErrLexName},
		{many(" ", 8193), 0, api.ErrLexLong},
		{"fn f() { " + many("(", 24) + "1" + many(")", 24) + "; }", 32, api.ErrParseDeep},
		{"fn f() { x; }", 9, api.ErrCheckName},
		{"fn f() { 1; g(); }", 12, api.ErrCheckName},
		{"fn f() { } fn f() { }", 11, api.ErrCheckTwice},
		{"fn f() { f(1); }", 9, api.ErrCheckArity},
		{"fn f() { let a; a; }", 16, api.ErrCheckUnset},
		{"fn f() { break; }", 9, api.ErrCheckLoop},
		{"fn f(a, b, c, d, e, g, h, i, j) { }", 0, api.ErrCheckParams},
		{"fn f() { x; # }", 12, api.ErrLexByte},
		{"fn f() { x; } }", 14, api.ErrParseToken},
		{"fn f() { [" + listing("1", 41) + "]; x; }", 134, api.ErrCheckName},
		{"fn f() { [" + listing("1", 41) + "]; ) }", 134, api.ErrParseToken},
		{"fn f() { [" + listing("1", 41) + "]; }", 9, api.ErrCompileStack},
	} {
		m, at, e := compile.Source(row.s)
		if e != row.code || at != row.at || !reflect.DeepEqual(m, api.Module{}) {
			t.Errorf("P21.2: Source of %s: %d at %d, want %d at %d; beside it %.100s", short(row.s), e, at, row.code, row.at, lines(m))
		}
	}
	if m, at, e := compile.Source(many(" ", 8192)); e != api.OK || at != 0 || len(m.Funcs) > 0 {
		t.Errorf("P21.2: Source of 8192 blanks: %d at %d", e, at)
	}
}

// TestP212Same: Source is Program of the tree that parse tells.
func TestP212Same(t *testing.T) {
	dice := rand.New(rand.NewSource(2103))
	for range 400 {
		s, e := print.Program(grown(dice, 1+dice.Intn(3), dice.Intn(300), 4+dice.Intn(40), int64(5+dice.Intn(100))))
		n, _, f := parse.Program(s)
		if e != api.OK || f != api.OK {
			continue // too long
		}
		m, at, e := compile.Source(s)
		o, place, f := compile.Program(n)
		if e != f || at != place || !reflect.DeepEqual(m, o) {
			t.Fatalf("P21.2: %s: %d at %d, %d at %d", short(s), e, at, f, place)
		}
	}
}

// every calls do with each node of a tree, the outer ones first.
func every(n *api.Node, do func(n *api.Node)) {
	do(n)
	for i := range n.Kids {
		every(&n.Kids[i], do)
	}
}

// copied is a tree in memory of its own.
func copied(n api.Node) api.Node {
	n.Kids = slices.Clone(n.Kids)
	for i := range n.Kids {
		n.Kids[i] = copied(n.Kids[i])
	}
	return n
}

// roomy is a tree whose lists have spare room, filled with what must stay.
func roomy(n api.Node) api.Node {
	kids := make([]api.Node, 0, len(n.Kids)+2)
	for _, kid := range n.Kids {
		kids = append(kids, roomy(kid))
	}
	_ = append(kids, named("spare"), named("room"))
	n.Kids = kids
	n.Val.L = slices.Repeat([]api.Value{text("spare")}, 3)[:0]
	n.Val.K = slices.Repeat([]string{"spare"}, 3)[:0]
	return n
}

// full is a tree with its spare room, as a text.
func full(n api.Node) string {
	var out strings.Builder
	var tell func(n api.Node)
	tell = func(n api.Node) {
		fmt.Fprintf(&out, "(%d %q %v %v %v %t %d", n.Kind, n.Text, n.Val, n.Val.L[:cap(n.Val.L)], n.Val.K[:cap(n.Val.K)], n.Flag, n.At)
		for _, kid := range n.Kids[:cap(n.Kids)] {
			tell(kid)
		}
		out.WriteString(")")
	}
	tell(n)
	return out.String()
}

// memories are those of all lists of a value.
func memories(v api.Value) []unsafe.Pointer {
	var out []unsafe.Pointer
	if cap(v.L) > 0 {
		out = append(out, unsafe.Pointer(unsafe.SliceData(v.L)))
	}
	if cap(v.K) > 0 {
		out = append(out, unsafe.Pointer(unsafe.SliceData(v.K)))
	}
	for _, x := range v.L[:cap(v.L)] {
		out = append(out, memories(x)...)
	}
	return out
}

// scribble writes into all lists of a module, their spare room too.
func scribble(m api.Module) {
	var over func(v api.Value)
	over = func(v api.Value) {
		for i, x := range v.L[:cap(v.L)] {
			over(x)
			v.L[:cap(v.L)][i] = number(-99)
		}
		for i := range v.K[:cap(v.K)] {
			v.K[:cap(v.K)][i] = "scribbled"
		}
	}
	for i, v := range m.Consts[:cap(m.Consts)] {
		over(v)
		m.Consts[:cap(m.Consts)][i] = number(-99)
	}
	for i := range m.Funcs[:cap(m.Funcs)] {
		m.Funcs[:cap(m.Funcs)][i] = api.Func{Params: -99}
	}
	for i := range m.Exports[:cap(m.Exports)] {
		m.Exports[:cap(m.Exports)][i] = api.Export{Name: "scribbled"}
	}
}

// TestP213NewMemory: an answer shares no memory with the tree, nor two lists of it, and the tree stays as it is.
func TestP213NewMemory(t *testing.T) {
	dice := rand.New(rand.NewSource(2104))
	for range 100 {
		n := roomy(grown(dice, 1+dice.Intn(4), dice.Intn(400), 5+dice.Intn(40), 100))
		before := full(n)
		m, at, e := compile.Program(n)
		text := whole(m)
		if full(n) != before {
			t.Fatalf("R3: %s is changed", brief(n))
		}
		if e != api.OK {
			continue
		}
		var theirs []unsafe.Pointer
		every(&n, func(n *api.Node) { theirs = append(theirs, memories(n.Val)...) })
		all := memories(api.Value{L: m.Consts})
		for i, p := range all {
			if slices.Contains(all[:i], p) || slices.Contains(theirs, p) {
				t.Fatalf("P21.3: %s: memory is shared", brief(n))
			}
		}
		scribble(m)
		if full(n) != before {
			t.Fatalf("P21.3: %s is changed by writing into what was answered", brief(n))
		}
		again, place, f := compile.Program(n)
		if whole(again) != text || place != at || f != e {
			t.Fatalf("P21.3: %s comes to something else again", brief(n))
		}
		// What was answered is no more changed by writing into the tree.
		every(&n, func(n *api.Node) { n.Text, n.Val.S = "x", "x" })
		if whole(again) != text {
			t.Fatalf("P21.3: what was answered keeps the tree")
		}
	}
}

// TestP214Places: a module does not hang on places, nor on blanks and remarks; an error's place is that of its node.
func TestP214Places(t *testing.T) {
	dice := rand.New(rand.NewSource(2105))
	for range 500 {
		n := grown(dice, 1+dice.Intn(4), dice.Intn(500), 5+dice.Intn(40), 60)
		other, shift := copied(n), []int{-1 << 40, 7, 1 << 50}[dice.Intn(3)]
		every(&other, func(n *api.Node) { n.At += shift })
		m, at, e := compile.Program(n)
		o, place, f := compile.Program(other)
		if e != api.OK {
			at += shift
		}
		if whole(m) != whole(o) || place != at || f != e {
			t.Fatalf("P21.4: %s: %d at %d, %d at %d", brief(n), e, at, f, place)
		}
	}
	plain := `export fn f(a, b) { let c = a[1].k; if (a) { return {k: c, "l": -b}; } while (!b) { break; } g(); } fn g() { }`
	m, _, e := compile.Source(plain)
	if e != api.OK {
		t.Fatal(e)
	}
	for _, blank := range []string{"  ", "\t", "\n", " // a remark\n", "\r\n\n"} {
		o, _, e := compile.Source(blank + strings.ReplaceAll(plain, " ", blank) + blank)
		if e != api.OK || !reflect.DeepEqual(m, o) {
			t.Errorf("P21.4: with %q: %d, %s", blank, e, lines(o))
		}
	}
	for _, s := range []string{strings.NewReplacer(" ", "", "export fn ", "export fn ", "fn ", "fn ", "let ", "let ", "return ", "return ").Replace(plain), strings.Replace(strings.Replace(plain, "a[1].k", "((a)[(1)].k)", 1), "-b", "(-(b))", 1)} {
		if o, at, e := compile.Source(s); e != api.OK || !reflect.DeepEqual(m, o) {
			t.Errorf("P21.4: %s: %d at %d, %s", s, e, at, lines(o))
		}
	}
}

// TestP214Names: a module says no name but those of exports.
func TestP214Names(t *testing.T) {
	m, _, e := compile.Source(`export fn f(a) { let b = g(a, 1); while (b) { b = f(b); } return b; } fn g(a, b) { return a; }`)
	o, _, f := compile.Source(`export fn f(x) { let len = h(x, 1); while (len) { len = f(len); } return len; } fn h(load, y) { return load; }`)
	if e != f || e != api.OK || !reflect.DeepEqual(m, o) {
		t.Errorf("P21.4: %d, %d: %s, %s", e, f, lines(m), lines(o))
	}
}

// TestT1Bytes: a module's bytes are read as it.
func TestT1Bytes(t *testing.T) {
	dice := rand.New(rand.NewSource(2106))
	for range 300 {
		m, _, e := compile.Program(grown(dice, 1+dice.Intn(4), dice.Intn(300), 5, 10))
		if e != api.OK {
			continue
		}
		b, e := module.Encode(m)
		o, at, f := module.Decode(b)
		if e != api.OK || f != api.OK || whole(o) != whole(m) {
			t.Fatalf("T1: %d, %d at %d", e, f, at)
		}
	}
}

// TestR1Spoilt: of whatever tree there is an answer; a form's error just where check has one.
func TestR1Spoilt(t *testing.T) {
	dice := rand.New(rand.NewSource(2107))
	refused := 0
	for range 4000 {
		n := grown(dice, 1+dice.Intn(3), dice.Intn(100), 5, 10)
		count := 0
		every(&n, func(*api.Node) { count++ })
		for range 1 + dice.Intn(3) {
			spoil(dice, &n, dice.Intn(count))
		}
		m, at, e := compile.Program(n)
		_, code := check.Program(n)
		if code != api.OK {
			refused++
			if e != api.ErrCompileForm || at != 0 || !reflect.DeepEqual(m, api.Module{}) {
				t.Fatalf("P21.1: %v: %d at %d, but check %d", n, e, at, code)
			}
			continue
		}
		agree(t, n)
	}
	if refused < 1000 || refused > 3900 {
		t.Errorf("%d of 4000 are refused", refused)
	}
}

// spoil changes something of the node that is met so late.
func spoil(dice *rand.Rand, n *api.Node, late int) {
	every(n, func(n *api.Node) {
		if late--; late != -1 {
			return
		}
		switch dice.Intn(6) {
		case 0:
			n.Kind = dice.Intn(25) - 1
		case 1:
			n.Text = []string{"", "-", "a0", "if", "&&", "i0", many("k", 33)}[dice.Intn(7)]
		case 2:
			n.Val = []api.Value{number(-1), number(1), text(many("x", 3000)), {Kind: api.Array}, {Kind: 9}}[dice.Intn(5)]
		case 3:
			n.Flag = !n.Flag
		case 4:
			n.Kids = n.Kids[:len(n.Kids)/2]
		case 5:
			n.Kids = append(slices.Clip(n.Kids), named("i0"), lit(number(3)))
		}
	})
}

// TestR1Endless: a tree that holds itself is refused.
func TestR1Endless(t *testing.T) {
	l := []api.Node{fn("f")}
	l[0].Kids[0].Kids = l
	refuses(t, node(api.Program, "", l...), 0, api.ErrCompileForm)
	l = []api.Node{node(api.If, "", lit(truth(true)), block(), api.Node{})}
	l[0].Kids[2] = api.Node{Kind: api.Block, Kids: l}
	refuses(t, node(api.Program, "", fn("f", l...)), 0, api.ErrCompileForm)
	v := []api.Value{{Kind: api.Array}}
	v[0].L = v
	refuses(t, node(api.Program, "", fn("f", do(lit(v[0])))), 0, api.ErrCompileForm)
}

// TestR1Deep: trees go as deep as they have nodes.
func TestR1Deep(t *testing.T) {
	program := func(l ...api.Node) api.Node {
		next := 1000
		return numbered(node(api.Program, "", fn("f", l...)), &next)
	}
	left, dots := lit(number(1)), lit(number(1))
	for range 9990 {
		left = node(api.Binary, "+", left, lit(number(1)))
	}
	for range 19990 {
		dots = node(api.Dot, "k", dots)
	}
	choice := node(api.If, "", lit(truth(true)), block())
	for range 6600 {
		choice = node(api.If, "", lit(truth(true)), block(), choice)
	}
	for _, n := range []api.Node{program(do(left)), program(do(dots)), program(choice)} {
		if _, e := agree(t, n); e != api.ErrCompileCode {
			t.Errorf("R1: %s: %d", brief(n), e)
		}
	}
	choice = node(api.If, "", lit(truth(true)), block())
	for range 498 {
		choice = node(api.If, "", lit(truth(true)), block(), choice)
	}
	if m, e := agree(t, program(choice)); e != api.OK || len(m.Funcs[0].Code) != 3992 {
		t.Errorf("R1: %d, %v", e, m.Funcs)
	}
	loops, depth := block(), 22
	for range depth {
		loops = block(node(api.While, "", lit(truth(true)), loops))
	}
	if _, e := agree(t, node(api.Program, "", node(api.Fn, "f", loops))); e != api.OK {
		t.Errorf("R1: %d Whiles within one another: %d", depth, e)
	}
}

// TestR4Apart: calls at the same time, and one behind the other, have nothing to do with each other.
func TestR4Apart(t *testing.T) {
	dice := rand.New(rand.NewSource(2108))
	var trees []api.Node
	var wants []string
	for range 40 {
		n := grown(dice, 1+dice.Intn(4), dice.Intn(600), 5+dice.Intn(40), 100)
		m, at, e := compile.Program(n)
		trees, wants = append(trees, n), append(wants, fmt.Sprint(e, at, whole(m)))
	}
	var group sync.WaitGroup
	for k := range 8 {
		group.Go(func() {
			for i := range trees {
				i = (i + 5*k) % len(trees)
				m, at, e := compile.Program(trees[i])
				if got := fmt.Sprint(e, at, whole(m)); got != wants[i] {
					t.Errorf("R4: tree %d comes to something else", i)
				}
			}
		})
	}
	group.Wait()
}
