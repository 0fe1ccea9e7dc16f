package compile_test

import (
	"fmt"
	"strings"
	"testing"

	"scruple/api"
	"scruple/compile"
	"scruple/module"
	"scruple/value"
)

// TestP211Constants: they are numbered as instructions ask for them, over all functions; each value once.
func TestP211Constants(t *testing.T) {
	for s, want := range map[string]string{
		`fn f() { 1; "1"; 1; true; "1"; unit; false; 1; }`:                   `1 "1" true unit false`,
		`fn f() { [3, [2, {a: 1}], "a"]; }`:                                  `3 2 1 ["a"] "a" unit`,
		`fn f(a) { a.x; "x"; a.y; {x: a.x, y: "y"}; }`:                       `"x" "y" ["x", "y"] unit`,
		`fn f(a) { {a: 1, b: 2}; {b: 1, a: 2}; {a: a, b: a}; {a: 1}; "a"; }`: `1 2 ["a", "b"] ["b", "a"] ["a"] "a" unit`,
		`fn f() { {}; { }; {"": 1}; ""; }`:                                   `[] 1 [""] "" unit`,
		`fn f() { {ab: 1}; {a: 1, b: 1}; {"a\x01b": 1}; }`:                   `1 ["ab"] ["a", "b"] ["a\x01b"] unit`,
		`fn f() { 1; 1 == 0; 0 == -1; }`:                                     `1 0 unit`,
		`fn f() { return; } fn g() { 5; } fn h() { 5; 6; unit; }`:            `unit 5 6`,
		`fn f(a) { a && a || a; }`:                                           `false true unit`,
		`fn f(a) { a || a && a; }`:                                           `true false unit`,
		`fn f(a) { a && 1; a || 2; }`:                                        `1 false true 2 unit`,
		`fn f(a) { if (a == 1) { 2; } else { 3; } while (a == 4) { 5; } }`:   `1 2 3 4 5 unit`,
		`fn f(a) { let b = 1; let c; c = 2; return 3; 4; }`:                  `1 2 3 4 unit`,
		`fn f(a) { a[1][2].k; a[3].k[4]; }`:                                  `1 2 "k" 3 4 unit`,
		`fn f(a) { f(1) + f(2) * f(3); }`:                                    `1 2 3 unit`,
		`fn f(a) { slice(1, 2, 3); save("k", 4); }`:                          `1 2 3 "k" 4 unit`,
	} {
		m, at, e := compile.Source(s)
		var l []string
		for _, v := range m.Consts {
			l = append(l, value.Print(v))
		}
		if got := strings.Join(l, " "); e != api.OK || got != want {
			t.Errorf("P21.1: the constants of %s are %s, want %s; %d at %d", s, got, want, e, at)
		}
		holds(t, s, m)
	}
}

// TestP211Locals: parameters and Lets are numbered in the order of the source; a name is the one that is visible.
func TestP211Locals(t *testing.T) {
	for s, want := range map[string]string{
		"fn f() { }":                                         ".func 0 0 1/const 0/ret",
		"fn f(a, b) { let c = b; c; a; }":                    ".func 2 3 1/get 1/set 2/get 2/pop/get 0/pop/const 0/ret",
		"fn f() { let a; let b; b = 1; a = b; }":             ".func 0 2 1/const 0/set 1/get 1/set 0/const 1/ret",
		"fn f(a) { if (a) { let b = a; b; } let b = a; b; }": ".func 1 3 1/get 0/unless 12/get 0/set 1/get 1/pop/get 0/set 2/get 2/pop/const 0/ret",
		"fn f(a) { if (a) { let b = a; b; } else { let b; b = a; b; } let c = a; c; }":            ".func 1 4 1/get 0/unless 15/get 0/set 1/get 1/pop/jump 22/get 0/set 2/get 2/pop/get 0/set 3/get 3/pop/const 0/ret",
		"fn f(a) { while (a) { let b; if (a) { let c; } let d = a; d; } }":                        ".func 1 4 1/get 0/unless 20/get 0/unless 10/get 0/set 3/get 3/pop/jump 0/const 0/ret",
		"fn f(a) { if (a) { } else if (a) { let b = a; } else { let c = a; let d = c; } a = a; }": ".func 1 4 1/get 0/unless 8/jump 28/get 0/unless 20/get 0/set 1/jump 28/get 0/set 2/get 2/set 3/get 0/set 0/const 0/ret",
		"fn f(f) { let len = f; let g = len; f(g); } fn g(a) { let f = a; f(f); }":                ".func 1 3 1/get 0/set 1/get 1/set 2/get 2/call 0/pop/const 0/ret/.func 1 2 1/get 0/set 1/get 1/call 0/pop/const 0/ret",
	} {
		m, at, e := compile.Source(s)
		got := lines(m)
		if e != api.OK || got[strings.Index(got, ".func"):] != want {
			t.Errorf("P21.1: %s\n got %s\nwant %s; %d at %d", s, got, want, e, at)
		}
		holds(t, s, m)
	}
}

// TestP211Stack: the most operands behind one of the instructions.
func TestP211Stack(t *testing.T) {
	for s, want := range map[string]int{
		"":                                 1,
		"a;":                               1,
		"let b;":                           1,
		"a + a;":                           2,
		"a + a + a + a;":                   2,
		"a + (a + (a + a));":               4,
		"(a + a) + (a + a);":               3,
		"[];":                              1,
		"[a, a, a];":                       3,
		"[a, [], a];":                      3,
		"[a, a, []];":                      3,
		"[a, a, [a, a]];":                  4,
		"[[a, a, a], a];":                  3,
		"{};":                              1,
		"{k: a, l: {}};":                   2,
		"{k: a, l: {m: a, n: a}};":         3,
		"g();":                             1,
		"g() + g();":                       2,
		"h(a, a, a);":                      3,
		"[a, h(a, a, a)];":                 4,
		"[h(a, a, a), a];":                 3,
		"[h(a, a, a), a, a, a];":           4,
		"slice(a, a, a);":                  3,
		"save(a, a) + a;":                  2,
		"a && a;":                          1,
		"a || a;":                          1,
		"a && (a + a);":                    2,
		"(a + a) && a;":                    2,
		"a || a + (a + a);":                3,
		"[a, a && a];":                     2,
		"[a, a || a];":                     2,
		"[a, a && a, a];":                  3,
		"[a, a || a, a];":                  3,
		"[a && a && a && a];":              1,
		"[a, a && (a || a) && a];":         2,
		"[a, a && [a, a]];":                3,
		"[a, a || [a, a]];":                3,
		"a[a][a];":                         2,
		"a[a[a]];":                         3,
		"a.k.l;":                           1,
		"---a;":                            1,
		"a = [a, a]; a;":                   2,
		"let b = [a, a, a];":               3,
		"if (a == a) { }":                  2,
		"if (a) { [a, a, a]; } else { }":   3,
		"if (a) { } else { [a, a, a]; }":   3,
		"while ([a, a]) { [a]; }":          2,
		"while (a) { break; [a, a]; }":     2,
		"return [a, a]; a;":                2,
		"return; [a, a, a];":               3,
		"if (a && a) { a; } a + a;":        2,
		"[a, a]; [a, a, a]; [a];":          3,
		"[" + listing("a", 40) + "];":      40,
		"[a, [" + listing("a", 39) + "]];": 40,
		"[[" + listing("a", 40) + "], a];": 40,
		many("[a, ", 22) + "a" + many("]", 22) + ";": 23,
	} {
		s = "fn f(a) { " + s + " } fn g() { } fn h(a, b, c) { }"
		m, at, e := compile.Source(s)
		if e != api.OK || m.Funcs[0].Stack != want || m.Funcs[1].Stack != 1 {
			t.Errorf("P21.1: the Stack of %.300s: %v; want %d; %d at %d", s, m.Funcs, want, e, at)
		}
		holds(t, s, m)
	}
}

// TestP211Exports: they stand by rising names, the others do not.
func TestP211Exports(t *testing.T) {
	for s, want := range map[string]string{
		"fn f() { }":                   "[]",
		"export fn f() { }":            "[{f 0}]",
		"fn a() { } export fn b() { }": "[{b 1}]",
		"export fn b() { } fn c() { } export fn a() { }":                                                                  "[{a 2} {b 0}]",
		"export fn a10() { } export fn a1() { } export fn a() { } export fn _() { } export fn Z() { } export fn a2() { }": "[{Z 4} {_ 3} {a 2} {a1 1} {a10 0} {a2 5}]",
	} {
		m, at, e := compile.Source(s)
		if got := fmt.Sprint(m.Exports); e != api.OK || got != want {
			t.Errorf("P21.1: the exports of %s are %s, want %s; %d at %d", s, got, want, e, at)
		}
		holds(t, s, m)
	}
}

// TestP211Form: what check refuses is no form, whatever else is wrong and wherever.
func TestP211Form(t *testing.T) {
	for _, s := range []string{
		"fn f() { a; }", "fn f() { g(); }", "fn f() { f(1); }", "fn f() { break; }", "fn f() { let a; a; }", "fn f() { } fn f() { }", "fn len() { }",
		"fn f(a, b, c, d, e, g, h, i, j) { }", "fn f() { let a = 1; let a = 2; }", "fn f() { {a: 1, a: 2}; }", "fn f(a, a) { }",
		"fn f() { [" + listing("1", 41) + "]; a; }", "fn f() { " + many("1;", 1400) + " a; }",
	} {
		refuses(t, placed(tree(t, s), 7), 0, api.ErrCompileForm)
	}
	for _, n := range []api.Node{
		{}, {Kind: 99}, lit(number(1)), fn("f"), block(), node(api.Program, "f"), node(api.Program, "", block()),
		node(api.Program, "", fn("if")), node(api.Program, "", fn("f", do(lit(number(-1))))), node(api.Program, "", fn("f", do(lit(api.Value{Kind: api.Array})))),
		node(api.Program, "", fn("f", do(lit(text(many("x", 2048)))))), node(api.Program, "", fn("f", lit(number(1)))),
		node(api.Program, "", node(api.Fn, "f")), node(api.Program, "", fn("f", node(api.If, "", lit(truth(true))))),
	} {
		refuses(t, placed(n, 7), 0, api.ErrCompileForm)
	}
	// Too many functions, and too many Lets, are told of what may be run alone.
	var l []api.Node
	for i := range 25 {
		l = append(l, placed(fn(fmt.Sprint("f", i)), i))
	}
	refuses(t, node(api.Program, "", l...), 24, api.ErrCompileFuncs)
	l[24].Kids[0].Kids = []api.Node{do(named("a"))}
	refuses(t, node(api.Program, "", l...), 0, api.ErrCompileForm)
}

// limit asks for an error at the place in a source that is marked by #; of one without a mark a module.
func limit(t *testing.T, code api.Errno, marked string) {
	t.Helper()
	at := strings.Index(marked, "#")
	if at < 0 {
		takes(t, tree(t, marked))
		return
	}
	refusesSource(t, strings.Replace(marked, "#", "", 1), at, code)
}

// lets are so many.
func lets(count int) string {
	s := ""
	for i := range count {
		s += fmt.Sprintf("let a%d; ", i)
	}
	return s
}

// operands is an expression with which there are so many, 3 to 41.
func operands(count int) string { return "[" + listing("1", count-2) + ", [1, [1]]]" }

// fill are statements of so many bytes of code, 6 or more; there is a variable a.
func fill(size int) string {
	return many("-", size%3) + "a; " + many("a; ", size/3-1)
}

// constants are Dos of so many numbers, from one on.
func constants(from, count int) string {
	s := ""
	for i := range count {
		s += fmt.Sprintf("%d; ", from+i)
	}
	return s
}

// TestP211Funcs: the Fn that is one more than 24 is told, ahead of all that is wrong within Fns.
func TestP211Funcs(t *testing.T) {
	functions := func(first string, count int) string {
		s := "fn f(a) { " + first + " }"
		for i := range count - 1 {
			s += fmt.Sprintf(" export fn f%d() { }", i)
		}
		return s
	}
	m := takes(t, tree(t, functions("f22();", 24)))
	if len(m.Funcs) != 24 || len(m.Exports) != 23 || m.Funcs[0].Code != "\x08\x17\x04\x01\x00\x09" {
		t.Errorf("P21.1: 24 functions: %s", lines(m))
	}
	for _, first := range []string{"", "f23();", "[" + listing("1", 41) + "];", lets(33), fill(4000), operands(41) + ";", constants(0, 101)} {
		for _, count := range []int{25, 26, 40} {
			limit(t, api.ErrCompileFuncs, strings.Replace(functions(first, count), "export fn f23", "#export fn f23", 1))
		}
	}
}

// TestP211TooManyLocals: the Let is told that is one more, ahead of all instructions.
func TestP211TooManyLocals(t *testing.T) {
	for _, s := range []string{
		"fn f() { " + lets(32) + "}",
		"fn f() { " + lets(32) + "#let z; }",
		"fn f() { " + lets(32) + "#let z = 1; let y; }",
		"fn f(p) { " + lets(31) + "}",
		"fn f(p) { " + lets(31) + "#let z; }",
		"fn f(p, q, r, s, t, u, v, w) { " + lets(24) + "}",
		"fn f(p, q, r, s, t, u, v, w) { " + lets(24) + "#let z; }",
		"fn f() { " + lets(32) + "} fn g(p) { " + lets(31) + "}",
		"fn f() { " + lets(32) + "} fn g(p) { " + lets(31) + "#let z = 1; }",
		"fn f() { if (1) { let b; } " + lets(31) + "}",
		"fn f() { if (1) { let b; } " + lets(31) + "#let z; }",
		"fn f() { " + lets(31) + "if (1) { let b; } #let z; }",
		"fn f() { " + lets(31) + "if (1) { } else { let b; #let z; } }",
		"fn f() { " + lets(31) + "if (1) { let b; } else if (1) { #let z; } else { let y; } }",
		"fn f() { " + lets(31) + "if (1) { let b; } else if (1) { } else { #let z = 5; } let y; }",
		"fn f() { " + lets(31) + "while (1) { while (1) { let b; } #let z; } }",
		"fn f() { " + lets(32) + "return; #let z = 5; }",
		"fn f() { " + lets(32) + "#let z = [" + listing("1", 41) + "]; }",
		"fn f() { let b = [" + listing("1", 41) + "]; " + lets(31) + "#let z; }",
		"fn f() { " + operands(41) + "; " + lets(32) + "#let z; }",
		"fn f(a) { " + fill(4000) + lets(31) + "#let z; }",
		"fn f() { " + constants(0, 101) + lets(32) + "#let z; }",
	} {
		limit(t, api.ErrCompileLocals, s)
	}
	if m := takes(t, tree(t, "fn f(p, q) { "+lets(15)+"if (p) { "+strings.ReplaceAll(lets(15), "a", "b")+"} }")); m.Funcs[0].Params != 2 || m.Funcs[0].Locals != 32 {
		t.Errorf("P21.1: %v", m.Funcs)
	}
}

// TestP211TooManyElements: the List or the Fields is told ahead of what it holds, behind all that stands ahead of it.
func TestP211TooManyElements(t *testing.T) {
	pairs := func(count int) string {
		var l []string
		for i := range count {
			l = append(l, fmt.Sprintf("k%d: a", i))
		}
		return strings.Join(l, ", ")
	}
	some, more := listing("a", 40), listing("a", 41)
	for _, s := range []string{
		"[" + some + "];",
		"#[" + more + "];",
		"#[" + listing("a", 500) + "];",
		"{" + pairs(40) + "};",
		"#{" + pairs(41) + "};",
		"#{" + pairs(200) + "};",
		"#[" + some + ", [" + more + "]];",
		"[" + listing("a", 39) + ", #[" + more + "]];",
		"[" + listing("a", 39) + ", #{" + pairs(41) + "}];",
		"{" + pairs(39) + ", z: #[" + more + "]};",
		"#{" + pairs(40) + ", z: [" + more + "]};",
		"#{" + pairs(40) + ", z: a};",
		"a && #[" + more + "];",
		"#[" + more + "] || a;",
		"return len(#[" + more + "]);",
		"f(#[" + more + "]);",
		"[#[" + more + "], [" + more + "]];",
		"-#[" + more + "] + [" + more + "];",
		"#[" + more + "][[" + more + "]];",
		"#{" + pairs(41) + "}.k0;",
		"let b = #[" + more + "];",
		"a = #[" + more + "];",
		"if (#[" + more + "]) { }",
		"while (#[" + more + "]) { }",
		"if (a) { } else { #[" + more + "]; }",
		"return; #[" + more + "];",
		// What it holds would pass other limits.
		fill(3900) + "#[" + listing("a", 100) + "];",
		constants(0, 100) + "#[" + listing("200", 41) + "];",
		constants(0, 100) + "#{" + pairs(41) + "};",
		"[" + listing("1", 38) + ", [a, [a, a]]] + #[" + more + "];",
	} {
		limit(t, api.ErrCompileStack, "fn f(a) { "+s+" }")
	}
	limit(t, api.ErrCompileCode, "fn f(a) { "+fill(3999)+"#a; ["+more+"]; }")
	limit(t, api.ErrCompileConsts, "fn f(a) { "+constants(0, 100)+"#200; ["+more+"]; }")
	limit(t, api.ErrCompileConsts, "fn f(a) { "+constants(0, 100)+"[#200, ["+more+"]]; }")
}

// TestP211TooManyOperands: the Fn is told, behind all that is told within it, ahead of the next one.
func TestP211TooManyOperands(t *testing.T) {
	l39, l40 := listing("1", 39), listing("1", 40)
	for s, high := range map[string]int{
		operands(39) + ";":                                   39,
		operands(40) + ";":                                   40,
		operands(41) + ";":                                   41,
		"[" + l39 + ", [" + l39 + "]];":                      78,
		"[1, [" + l39 + "]];":                                40,
		"[1, [" + l40 + "]];":                                41,
		"[1, 1 && [" + l40 + "]];":                           41,
		"[1, 1 || [" + l40 + "]];":                           41,
		"[[" + l40 + "], 1];":                                40,
		"[" + l39 + ", 1];":                                  40,
		"[" + l39 + ", -1];":                                 40,
		"[" + l39 + ", []];":                                 40,
		"[" + l39 + ", g()];":                                40,
		"[" + l39 + ", 1 + 1];":                              41,
		"[" + l39 + ", [1, 1]];":                             41,
		"[" + l39 + ", {k: 1, l: 1}];":                       41,
		"[" + l39 + ", f(1, 1)];":                            41,
		"[" + l39 + ", 1[1]];":                               41,
		"[" + l39 + ", 1 && 1 || 1];":                        40,
		"[" + l39 + ", 1 && (1 + 1)];":                       41,
		"[" + l39 + ", 1 || (1 + 1)];":                       41,
		"[" + l39 + ", slice(1, 1, 1)];":                     42,
		"f(" + operands(40) + ", 1);":                        40,
		"f(1, " + operands(40) + ");":                        41,
		"{k: 1, l: " + operands(39) + "};":                   40,
		"{k: 1, l: " + operands(40) + "};":                   41,
		"let c = " + operands(41) + ";":                      41,
		"a = " + operands(41) + ";":                          41,
		"return " + operands(41) + ";":                       41,
		"return; " + operands(41) + ";":                      41,
		"if (" + operands(41) + ") { }":                      41,
		"while (" + operands(41) + ") { }":                   41,
		"if (1) { " + operands(40) + "; }":                   40,
		"if (1) { " + operands(41) + "; }":                   41,
		"while (1) { " + operands(41) + "; }":                41,
		"if (1) { } else { " + operands(41) + "; }":          41,
		"if (1) { } else if (1) { } else { [" + l40 + "]; }": 40,
		operands(41) + "; " + operands(40) + ";":             41,
	} {
		ahead, body := "fn g() { } ", "export fn f(a, b) { "+s+" }"
		if high <= 40 {
			if m := takes(t, tree(t, ahead+body)); m.Funcs[1].Stack != high {
				t.Errorf("P21.1: %s: %v, want %d", s, m.Funcs, high)
			}
			continue
		}
		limit(t, api.ErrCompileStack, ahead+"#"+body)
		limit(t, api.ErrCompileStack, ahead+"#"+body+" fn h() { "+lets(33)+" }")
	}
	too := operands(41) + "; "
	limit(t, api.ErrCompileStack, "fn f(a) { "+too+"#["+listing("a", 41)+"]; }")
	limit(t, api.ErrCompileCode, "fn f(a) { "+too+fill(3910)+"#a; }")
	limit(t, api.ErrCompileConsts, "fn f(a) { "+too+constants(1, 100)+"#101; }")
	limit(t, api.ErrCompileLocals, "fn g() { "+lets(32)+" #let z; } fn f() { "+too+" }")
	limit(t, api.ErrCompileStack, "#fn f() { "+too+" } fn g() { ["+listing("1", 41)+"]; }")
}

// TestP211TooManyConstants: the node is told at which an instruction asks for the one that is one more than 100.
func TestP211TooManyConstants(t *testing.T) {
	most := constants(0, 100)
	for _, s := range []string{
		"fn f() { " + constants(0, 99) + "}",
		"#fn f() { " + most + "}",
		"#export fn f() { " + most + "}",
		"fn f() { " + most + "#100; }",
		"fn f() { " + most + "#100; 101; }",
		"fn f() { " + most + "#\"1\"; }",
		"fn f() { " + constants(0, 99) + "unit; " + constants(0, 99) + "}",
		"fn f() { " + constants(0, 60) + "} fn g() { " + constants(40, 59) + "}",
		"fn f() { " + constants(0, 60) + "} fn g() { " + constants(40, 59) + "#99; }",
		"fn f() { " + constants(0, 99) + "} fn g() { #99; }",
		"fn f() { " + constants(0, 99) + "return; } fn g() { }",
		"fn f() { " + most + "#return; }",
		"fn f() { " + most + "return #100; }",
		"#fn f() { " + most + "return 1; }",
		"fn f() { " + constants(0, 98) + "1 && 2; }",
		"#fn f() { " + constants(0, 99) + "1 && 2; }",
		"fn f() { " + most + "1 #&& 2; }",
		"fn f() { " + most + "1 #|| 2; }",
		"fn f() { " + most + "1 && #100; }",
		"fn f() { " + most + "1 #|| 100; }",
		"fn f() { " + most + "#100 && 2; }",
		"#fn f() { " + constants(0, 98) + "1 && 2 || 3; }",
		"fn f() { " + constants(0, 99) + "1 && 2 #|| 3; }",
		"fn f() { " + constants(0, 99) + "1 #&& (2 || 3); }",
		"fn f() { " + constants(0, 99) + "1 || 2 #&& 3; }",
		"fn f() { " + most + "1#.k; }",
		"fn f() { " + constants(0, 99) + "1.k; 2.k; \"k\"; #{k: 1}; }",
		"fn f() { " + constants(0, 99) + "{k: 1}; {k: 2}; 1#.k; }",
		"fn f() { " + most + "#{}; }",
		"fn f() { " + most + "#{k: 1, l: 2}; }",
		"fn f() { " + most + "{k: 1, l: #100}; }",
		"fn f() { " + constants(0, 99) + "{k: 1, l: 2}; #{l: 1, k: 2}; }",
		"fn f() { " + most + "[1, #{l: 2}, 200]; }",
		"fn f(a) { " + most + "let b = -#100; }",
		"fn f(a) { " + most + "a = len(#100); }",
		"fn f(a) { " + most + "while (#100) { } }",
		"fn f(a) { " + most + "if (a) { } else { a[#100]; } }",
		// It is told ahead of the code's length.
		"fn f(a) { " + most + fill(3699) + "#100; }",
	} {
		limit(t, api.ErrCompileConsts, s)
	}
	limit(t, api.ErrCompileCode, "fn f(a) { "+most+fill(3699)+"#99; }")
	m := takes(t, tree(t, "fn f() { "+constants(0, 99)+"}"))
	if len(m.Consts) != 100 || m.Consts[98].N != 98 || m.Consts[99].Kind != api.Unit {
		t.Errorf("P21.1: 100 constants: %s", lines(m))
	}
}

// unmarked takes the marks out of a source: # and a letter. It tells where each stood.
func unmarked(marked string) (string, map[byte]int) {
	s, places := "", map[byte]int{}
	for i := 0; i < len(marked); i++ {
		if marked[i] == '#' {
			i++
			places[marked[i]] = len(s)
			continue
		}
		s += marked[i : i+1]
	}
	return s, places
}

// TestP211TooLongCode: the node is told whose instruction would be beyond 4000 bytes, of each instruction of a statement.
func TestP211TooLongCode(t *testing.T) {
	for marked, sizes := range map[string]string{
		// A mark for each node, and the instructions in their order: each by its node's mark and how many bytes it has.
		"":                                  "",
		"#Aa;":                              "A2 A1",
		"#A1;":                              "A2 A1",
		`#A"x";`:                            "A2 A1",
		"#A-#Ba;":                           "B2 A1 A1",
		"#A!(#B-#Ca);":                      "C2 B1 A1 A1",
		"#Aa #B+ #C1;":                      "A2 C2 B1 A1",
		"#Aa #B- #Cb #D- #Ec;":              "A2 C2 B1 E2 D1 A1",
		"#Aa #B- (#Cb #D- #Ec);":            "A2 C2 E2 D1 B1 A1",
		"#A(#Ba #C== #Db) #E!= #Fc;":        "B2 D2 C1 F2 E1 A1",
		"#Aa#B[#C1];":                       "A2 C2 B1 A1",
		"#Aa#B.k;":                          "A2 B2 A1",
		"#Aa#B.k#C.l#D[#Eb];":               "A2 B2 C2 E2 D1 A1",
		"#A[];":                             "A2 A1",
		"#A[#Ba, #C[#Db], #Ec];":            "B2 D2 C2 E2 A2 A1",
		"#A{};":                             "A2 A1",
		"#A{k: #Ba, l: #C{m: #Db}};":        "B2 D2 C2 A2 A1",
		"#Ah(#Ba, #Cg());":                  "B2 C2 A2 A1",
		"#Asave(#Ba, #Clen(#Db));":          "B2 D2 C1 A1 A1",
		"#Aa #B&& #Cb;":                     "A2 B3 C2 B1 B3 B2 A1",
		"#Aa #B|| #Cb;":                     "A2 B3 B2 B3 C2 B1 A1",
		"#Aa #B&& #Cb #D|| #Ec;":            "A2 B3 C2 B1 B3 B2 D3 D2 D3 E2 D1 A1",
		"#Aa #B|| #Cb #D&& #Ec;":            "A2 B3 B2 B3 C2 D3 E2 D1 D3 D2 B1 A1",
		"#Alet d;":                          "",
		"#Alet d = #Ba #C+ #Db;":            "B2 D2 C1 A2",
		"#Aa = #Bb #C* #Dc;":                "B2 D2 C1 A2",
		"#Areturn;":                         "A2 A1",
		"#Areturn #Ba;":                     "B2 A1",
		"#Areturn #Ba #C/ #Db; #Ec;":        "B2 D2 C1 A1 E2 E1",
		"#Aif (#Ba) { }":                    "B2 A3",
		"#Aif (#Ba) { #Cb; }":               "B2 A3 C2 C1",
		"#Aif (#Ba) { } else { }":           "B2 A3 A3",
		"#Aif (#Ba) { #Cb; } else { #Dc; }": "B2 A3 C2 C1 A3 D2 D1",
		"#Aif (#Ba) { } else #Cif (#Db) { } else { }":  "B2 A3 A3 D2 C3 C3",
		"#Aif (#Ba) { #Cif (#Db) { } else { #Eb; } }":  "B2 A3 D2 C3 C3 E2 E1",
		"#Awhile (#Ba) { }":                            "B2 A3 A3",
		"#Awhile (#Ba) { #Cb = #Dc; }":                 "B2 A3 D2 C2 A3",
		"#Awhile (#Ba) { #Cbreak; #Dcontinue; }":       "B2 A3 C3 D3 A3",
		"#Awhile (#Ba) { #Cwhile (#Db) { #Ebreak; } }": "B2 A3 D2 C3 E3 C3 A3",
		"#Awhile (#Ba) { #Creturn; } #Db;":             "B2 A3 C2 C1 A3 D2 D1",
	} {
		statement, places := unmarked(marked)
		instructions := append(strings.Fields(sizes), "X2", "X1")
		total := 0
		for _, i := range instructions {
			total += int(i[1] - '0')
		}
		for size := 4000 - total - 1; size <= 4000; size++ {
			ahead := "fn g() { } fn h(a, b) { } "
			source := ahead + "fn f(a, b, c) { " + fill(size)
			begin := len(source)
			source += statement + " }"
			places['X'] = len(ahead) - begin
			have := size
			at, code := 0, api.OK
			for _, i := range instructions {
				have += int(i[1] - '0')
				if have > 4000 && code == api.OK {
					at, code = begin+places[i[0]], api.ErrCompileCode
				}
			}
			if m, place, e := compile.Source(source); e != code || place != at || e == api.OK && len(m.Funcs[2].Code) != have {
				t.Errorf("P21.1: %q behind %d bytes: %d at %d, want %d at %d", statement, size, e, place-begin, code, at-begin)
			}
		}
	}
}

// TestP211CodeOfEach: each function has 4000 bytes of its own; what no way leads to counts.
func TestP211CodeOfEach(t *testing.T) {
	for _, s := range []string{
		"fn f(a) { " + fill(3997) + "} fn g(a) { " + fill(3997) + "}",
		"fn f(a) { " + fill(3997) + "} #fn g(a) { " + fill(3998) + "}",
		"#fn f(a) { " + fill(3998) + "} fn g(a) { " + fill(3999) + "}",
		"fn f(a) { return; " + fill(3996) + "#a; }",
		"fn f(a) { while (a) { break; " + fill(3991) + "#a; } }",
		"fn f(a) { while (a) { continue; " + fill(3988) + "#if (a) { } } }",
	} {
		limit(t, api.ErrCompileCode, s)
	}
	m := takes(t, tree(t, "fn f(a) { if (a) { "+fill(3992)+"} }"))
	if got := m.Funcs[0].Code; len(got) != 4000 || got[:5] != "\x02\x00\x06\x0f\x9d" {
		t.Errorf("P21.1: %d bytes, %x", len(got), got[:5])
	}
}

// row is an expression of so many && behind each other: 11 bytes each.
func row(count int) api.Node {
	n := lit(truth(true))
	for range count {
		n = placed(node(api.Binary, "&&", n, lit(truth(true))), 5)
	}
	return n
}

// heavyCode has a module of long functions, and one constant of so many bytes.
func heavyCode(count int) api.Node {
	n := placed(node(api.Program, "", fn("last", do(lit(text(many("x", count)))), do(row(300)))), 3)
	for i := range 16 {
		n.Kids = append(n.Kids, placed(fn(fmt.Sprint("f", i), do(row(350))), 4))
	}
	return n
}

// heavyConstants has a module of long constants, one of them of so many bytes.
func heavyConstants(count int) api.Node {
	l := []api.Node{do(lit(text(many("x", count))))}
	for i := range 31 {
		l = append(l, placed(do(lit(text(fmt.Sprintf("%02047d", i)))), 4))
	}
	return placed(node(api.Program, "", placed(fn("f", l...), 2)), 3)
}

// TestP211TooLongModule: no place is told of a module of too many bytes, and all other limits come first.
func TestP211TooLongModule(t *testing.T) {
	for i, heavy := range []func(count int) api.Node{heavyCode, heavyConstants} {
		length := func(count int) int {
			b, e := module.Encode(takes(t, heavy(count)))
			if e != api.OK {
				t.Fatalf("P21.1: %d: module.Encode: %d", i, e)
			}
			return len(b)
		}
		fits := 200 + 65536 - length(200)
		if got := length(fits); got != 65536 || fits >= 2047 {
			t.Fatalf("P21.1: %d: %d bytes with %d", i, got, fits)
		}
		for _, more := range []int{1, 2, 10, 2047 - fits} {
			n := heavy(fits + more)
			refuses(t, n, 0, api.ErrCompileCode)
			n.Kids = append(n.Kids, placed(fn("h", do(lit(truth(true))), placed(do(row(400)), 8)), 9))
			refuses(t, n, 5, api.ErrCompileCode)
		}
	}
}
