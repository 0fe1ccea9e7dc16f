package check_test

import (
	"fmt"
	"math"
	"math/rand"
	"reflect"
	"slices"
	"strings"
	"sync"
	"testing"

	"scruple/api"
	"scruple/check"
	"scruple/code"
	"scruple/parse"
	"scruple/print"
)

func many(s string, count int) string { return strings.Repeat(s, count) }

// node is one of a kind, with a Text and Kids.
func node(kind int, text string, kids ...api.Node) api.Node {
	return api.Node{Kind: kind, Text: text, Kids: kids}
}

func named(text string) api.Node { return node(api.Name, text) }

func number(n int64) api.Node {
	return api.Node{Kind: api.Lit, Val: api.Value{Kind: api.Int, N: n}}
}

func block(l ...api.Node) api.Node { return node(api.Block, "", l...) }

func do(n api.Node) api.Node { return node(api.Do, "", n) }

// program has one function f of these statements.
func program(l ...api.Node) api.Node {
	return node(api.Program, "", node(api.Fn, "f", block(l...)))
}

// at is a node with a place.
func at(place int, n api.Node) api.Node {
	n.At = place
	return n
}

// brief is a tree as a text that is not too long.
func brief(n api.Node) string {
	if s, e := print.Program(n); e == api.OK {
		return fmt.Sprintf("%.1500s", s)
	}
	return fmt.Sprintf("a node of kind %d with %d Kids", n.Kind, len(n.Kids))
}

// answers holds what Program says of a tree against what is wanted.
func answers(t *testing.T, n api.Node, place int, want api.Errno) {
	t.Helper()
	if got, e := check.Program(n); got != place || e != want {
		t.Errorf("%s\nis %d, %v, want %d, %v", brief(n), got, e, place, want)
	}
}

// source holds what Program says of a source's tree against what is wanted, and the model, too.
func source(t *testing.T, s string, place int, want api.Errno) {
	t.Helper()
	n, where, e := parse.Program(s)
	if e != api.OK {
		t.Errorf("%q is no source: %d, %v", s, where, e)
		return
	}
	answers(t, n, place, want)
	if got, e := model(n); got != place || e != want {
		t.Errorf("model: %q is %d, %v, want %d, %v", s, got, e, place, want)
	}
}

// fine are sources with which nothing is wrong.
func fine(t *testing.T, sources ...string) {
	t.Helper()
	for _, s := range sources {
		source(t, s, 0, api.OK)
	}
}

// faulty are sources with a fault; @ stands ahead of the node at which it is.
func faulty(t *testing.T, want api.Errno, sources ...string) {
	t.Helper()
	for _, s := range sources {
		place := strings.Index(s, "@")
		if place < 0 || strings.Count(s, "@") != 1 {
			t.Errorf("%q has no mark", s)
			continue
		}
		source(t, strings.Replace(s, "@", "", 1), place, want)
	}
}

// asModel holds what Program says against the model.
func asModel(t *testing.T, n api.Node) api.Errno {
	t.Helper()
	place, want := model(n)
	if got, e := check.Program(n); got != place || e != want {
		t.Fatalf("%s\nis %d, %v, want %d, %v", brief(n), got, e, place, want)
	}
	return want
}

func TestExamples(t *testing.T) {
	source(t, `fn f(a) { let b; if (a) { b = 1; } else { return; } b; }`, 0, api.OK)
	source(t, `fn f(a) { let b; if (a) { b = 1; } b; }`, 35, api.ErrCheckUnset)
	source(t, `fn f(a) { let b; while (a) { b = 1; } b; }`, 38, api.ErrCheckUnset)
	source(t, `fn f() { { a: 1, a: 2 }; }`, 17, api.ErrCheckTwice)
	source(t, `fn f(a) { let a = 1; }`, 10, api.ErrCheckTwice)
	source(t, `fn f() { if (true) { let a; } let a; }`, 0, api.OK)
	source(t, `fn f() { let a = a; }`, 17, api.ErrCheckName)
	source(t, `fn f() { g(); }`, 9, api.ErrCheckName)
	source(t, `fn f() { f(1); }`, 9, api.ErrCheckArity)
	source(t, `fn f() { break; }`, 9, api.ErrCheckLoop)
	source(t, `fn len() { }`, 0, api.ErrCheckTwice)
	source(t, `fn f() { } fn f() { }`, 11, api.ErrCheckTwice)
	builtin(t, "slice", 30, 3, true)
	builtin(t, "add", 0, 0, false)
	builtin(t, "load", 38, 1, true)
}

func TestExamplesOfTheWhole(t *testing.T) {
	fine(t,
		`export fn f(a) { return a + 1; }`,
		`export fn g() { save("k", 1); return load("k"); }`,
		`export fn h() { save("k", 2); abort(unit); }`,
		`fn f(){return(1+2)*3;}`)
}

func builtin(t *testing.T, name string, op, count int, want bool) {
	t.Helper()
	if o, c, ok := check.Builtin(name); o != op || c != count || ok != want {
		t.Errorf("Builtin(%.40q) is %d, %d, %t, want %d, %d, %t", name, o, c, ok, op, count, want)
	}
}

func TestP191EachOne(t *testing.T) {
	for i, row := range []struct {
		name  string
		count int
	}{
		{"len", 1}, {"push", 2}, {"change", 3}, {"slice", 3}, {"with", 3}, {"without", 2}, {"keys", 1}, {"has", 2},
		{"kind", 1}, {"digest", 1}, {"abort", 1}, {"load", 1}, {"save", 2}, {"drop", 1}, {"after", 1},
	} {
		builtin(t, row.name, 27+i, row.count, true)
		if place, count, ok := modelBuiltin(row.name); place != i || count != row.count || !ok {
			t.Errorf("model: %s is %d, %d, %t", row.name, place, count, ok)
		}
	}
}

func TestP191None(t *testing.T) {
	for _, name := range strings.Fields("const get set pop jump unless test call ret add sub mul div rem neg not eq ne lt le gt ge array record index field") {
		if _, ok := code.Named(name); !ok {
			t.Errorf("%s is no operation", name)
		}
		builtin(t, name, 0, 0, false)
	}
	for _, name := range []string{
		"", " ", "f", "a", "Len", "LEN", "lens", "le", "l", "len ", " len", "len\x00", "len()", "len:1", "\xff", "l\u00e9n", "if", "unit", "true", "export", "loadsave", "with out", many("len", 100000),
	} {
		builtin(t, name, 0, 0, false)
	}
	dice := rand.New(rand.NewSource(1901))
	for range 20000 {
		b := make([]byte, dice.Intn(5))
		for i := range b {
			b[i] = "lenkysahdropw"[dice.Intn(13)]
		}
		_, count, ok := modelBuiltin(string(b))
		op, _ := code.Named(string(b))
		if !ok {
			op = 0
		}
		builtin(t, string(b), op, count, ok)
	}
}

func TestP192Form(t *testing.T) {
	fine(t, "", "fn f() {}")
	answers(t, api.Node{Kind: api.Program}, 0, api.OK)
	answers(t, at(7, api.Node{Kind: api.Program}), 0, api.OK)
	f := node(api.Fn, "f", block())
	for _, n := range []api.Node{
		{}, {Kind: -1}, {Kind: math.MaxInt}, {Kind: math.MinInt}, f, block(), named("a"), number(1),
		{Kind: api.Program, Text: "x"}, {Kind: api.Program, Flag: true}, {Kind: api.Program, Val: api.Value{Kind: api.Int}},
		node(api.Program, "", node(api.Program, "")), node(api.Program, "", f, block()),
		node(api.Program, "", node(api.Fn, "f")), node(api.Program, "", node(api.Fn, "", block())), node(api.Program, "", node(api.Fn, "if", block())),
		node(api.Program, "", node(api.Fn, "f", block(), block())), node(api.Program, "", node(api.Fn, "f", node(api.Param, "a"))),
		program(number(1)), program(do(number(-1))), program(node(api.If, "", number(1))), program(node(api.While, "", block(), number(1))),
		program(node(api.Let, "1")), program(node(api.Break, "", number(1))), program(do(node(api.Binary, "&", number(1), number(2)))),
		program(node(api.If, "", number(1), block(), block(), block())), program(node(api.If, "", number(1), block(), number(1))),
	} {
		answers(t, n, 0, api.ErrCheckForm)
		answers(t, at(5, n), 0, api.ErrCheckForm)
	}
	// Whatever else is wrong ahead of it, the form is asked first.
	late := node(api.Program, "", at(3, node(api.Fn, "len", block())), node(api.Fn, "f", block(at(4, do(at(4, named("if")))))))
	answers(t, late, 0, api.ErrCheckForm)
	late.Kids[1].Kids[0].Kids[0].Kids[0].Text = "iff"
	answers(t, late, 3, api.ErrCheckTwice)
	late.Kids[0].Text = "g"
	answers(t, late, 4, api.ErrCheckName)
}

func TestP192Heads(t *testing.T) {
	for _, name := range strings.Fields("len push change slice with without keys has kind digest abort load save drop after") {
		faulty(t, api.ErrCheckTwice, "@fn "+name+"() {}", "@export fn "+name+"() {}", "fn f() {} @fn "+name+"(a, b) {}")
		fine(t, "fn "+name+"1() {}", "fn "+strings.ToUpper(name)+"() {}")
	}
	fine(t, "fn add() {} fn const() {} fn get() {} fn index() {} fn not() {} fn call() { add(); }")
	faulty(t, api.ErrCheckTwice,
		"fn f() {} @fn f(a) {}",
		"fn f(a) {} fn g() {} @export fn f() {}",
		"export fn f() {} @fn f() {}",
		"fn f() {} fn g() {} fn h() {} @fn g() {} fn h() {} fn f() {}",
		"fn f() {} @fn f(a, b, c, d, e, g, h, i, j) {}",
		"@fn len(a, b, c, d, e, g, h, i, j) {}",
		"fn f(a, b, c, d, e, g, h, i) {} @fn f() {}",
	)
	fine(t, "fn f() {} fn g() {} fn F() {} fn f_() {} fn f1() {}", "fn f(a, b, c, d, e, g, h, i) {}", "fn f(f) { f; f(f); }")
	faulty(t, api.ErrCheckParams,
		"@fn f(a, b, c, d, e, g, h, i, j) {}",
		"@export fn f(a, b, c, d, e, g, h, i, j, k, l, m) {}",
		"@fn f(a, a, a, a, a, a, a, a, a) {}",
		"fn g(a, b, c, d, e, g, h, i) {} @fn f(a, b, c, d, e, g, h, i, j) {} fn f() {}",
		"@fn f(a, b, c, d, e, g, h, i, j) {} fn len() {} fn f() {}",
		"@fn f(a, b, c, d, e, g, h, i, j) { nothing; }",
	)
	// All heads are looked at ahead of what stands within.
	faulty(t, api.ErrCheckTwice, "fn f(a, a) { b; break; g(); } @fn load() {}", "fn f() { a; } fn g() {} @fn g() {}")
	faulty(t, api.ErrCheckParams, "fn f(a, a) { b; break; g(); } @fn g(a, b, c, d, e, g, h, i, j) {}")
}

func TestP192Params(t *testing.T) {
	fine(t, "fn f(a, b) { a; b; }", "fn f(a) {} fn g(a) {}", "fn f(f, len, save, g) { f; len; save; g; } fn g() {}", "fn f(a, A, a1, _a) {}")
	faulty(t, api.ErrCheckTwice,
		"fn f(a, @a) {}",
		"fn f(a, b, @a) {}",
		"fn f(a, b, c, @b, a) { d; }",
		"fn f(a, b, c, d, e, g, h, @h) {}",
		"fn f(a) { a; } fn g(a, @a) { b; }",
	)
	// A function is gone through to its end ahead of the next one's parameters.
	faulty(t, api.ErrCheckName, "fn f(a) { @b; } fn g(a, a) {}", "fn f() {} fn g() { @a; } fn h() { b; }")
}

func TestP192Variables(t *testing.T) {
	fine(t,
		"fn f() { let a; a = 1; a; }",
		"fn f() { let a = 1; let b = a; b; }",
		"fn f() { let len = 1; len(len); let f = len; f(); }",
		"fn f() { let a = 1; {a: a}.a; a.b; }",
		"fn f() { if (1) { let a = 1; a; } else { let a = 2; a; } let a = 3; a; }",
		"fn f() { while (1) { let a = 1; } while (2) { let a = 2; a; } let a; }",
		"fn f() { while (1) { if (2) { let a; } let a; } let a; }",
		"fn f() { let a = 1; } fn g() { let a = 1; }",
		"fn f() { if (1) {} else if (2) { let a = 1; } else { let a = 1; } let a; }",
	)
	faulty(t, api.ErrCheckTwice,
		"fn f() { let a; @let a; }",
		"fn f() { let a = 1; @let a = a; }",
		"fn f(a) { @let a; }",
		"fn f(a) { if (1) { @let a; } }",
		"fn f(a) { if (1) {} else { @let a; } }",
		"fn f() { let a; while (1) { if (2) { @let a = 1; } } }",
		"fn f() { let a; if (1) {} else if (2) { @let a; } }",
		"fn f() { if (1) { let b; let a; } let a; if (1) { let b; @let a; } }",
		"fn f() { return; let a; @let a; }",
		"fn f() { let a; let b; let c; @let b; }",
		"fn f() { while (1) { let a; @let a; } }",
	)
	faulty(t, api.ErrCheckName,
		"fn f() { @a; }",
		"fn f() { @a = 1; }",
		"fn f() { @a = 1; let a; }",
		"fn f() { @a; let a = 1; }",
		"fn f() { let a = @a; }",
		"fn f(a) { let a = @b; }",
		"fn f() { a = @b; }",
		"fn f(b) { @a = b; }",
		"fn f() { if (1) { let a = 1; } @a; }",
		"fn f() { if (1) { let a = 1; } @a = 1; }",
		"fn f() { if (1) { let a = 1; } else { @a; } }",
		"fn f() { if (1) { let a = 1; } else if (@a) {} }",
		"fn f() { while (@a) { let a = 1; } }",
		"fn f() { while (1) { let a = 1; } @a; }",
		"fn f() { while (1) { @a; let a = 1; } }",
		"fn f() { let a = 1; if (1) { let b; } @b = 1; }",
		"fn f() { let a = 1; } fn g() { @a; }",
		"fn f(a) { a; } fn g() { @a; }",
		"fn f(a) { a; } fn g(b) { @a = b; }",
		"fn f() { @f; }",
		"fn f() { @len; }",
		"fn f() { @f = 1; }",
		"fn f(a) { @A; }",
		"fn f() { {a: 1}; @a; }",
		"fn f() { return; @a; }",
		"fn f() { return; @a = 1; }",
		"fn f() { if (1) { return; let a; } else { @a; } }",
	)
	// The expression is looked at first.
	faulty(t, api.ErrCheckTwice, "fn f(a) { @let a = a; }", "fn f(a) { let a = {b: 1, @b: 2}; }", "fn f() { c = {b: 1, @b: 2}; }")
	faulty(t, api.ErrCheckArity, "fn f(a) { let a = @f(); }", "fn f(a) { b = @f(); }")
}

// Each form, with a name that nothing has at each of its places.
func TestP192Order(t *testing.T) {
	rows := []string{
		"fn f() { %; }", "fn f() { let a = %; }", "fn f(a) { a = %; }", "fn f() { return %; }",
		"fn f() { if (%) { %; } }", "fn f() { if (%) { %; %; } else { %; } %; }", "fn f() { if (%) { %; } else if (%) { %; } else { %; } }",
		"fn f() { while (%) { %; } %; }", "fn f() { -%; }", "fn f() { !%; }", "fn f() { %[%]; }", "fn f() { %.k; }", "fn f() { [%, %, %]; }",
		"fn f() { {a: %, b: %, c: %}; }", "fn f() { len(%); push(%, %); change(%, %, %); }", "fn f(a, b) { f(%, %); }", "fn f() { f(); %; } fn g() { %; }",
		"fn f() { % + % * % - %; }", "fn f() { (% || %) && % == %[% + %.k]; }", "fn f() { while (%) { break; %; continue; %; } return %; %; }",
	}
	for _, sign := range strings.Fields("|| && == != < <= > >= + - * / %%") {
		rows = append(rows, "fn f() { % "+strings.Replace(sign, "%%", "\x00", 1)+" %; }")
	}
	for _, row := range rows {
		count := strings.Count(row, "%")
		parts := strings.Split(row, "%")
		for bad := range count {
			s, place := parts[0], 0
			for i, part := range parts[1:] {
				if i == bad {
					place = len(s)
				}
				s += "0"
				if i == bad || i == count-1 && bad > 0 {
					s = s[:len(s)-1] + "x" // the last one is wrong, too: the first one is told
				}
				s += part
			}
			source(t, strings.Replace(s, "\x00", "%", 1), place, api.ErrCheckName)
		}
	}
}

func TestP192Calls(t *testing.T) {
	fine(t,
		"fn f() { g(); } fn g() { f(); }",
		"fn f(a) { f(f(f(a))); }",
		"fn f(a, b, c, d, e, g, h, i) { f(1, 2, 3, 4, 5, 6, 7, 8); }",
		`fn f(a) { len(a); push(a, a); change(a, 1, 2); slice(a, 1, 2); with(a, "k", 1); without(a, "k"); keys(a); has(a, "k"); }`,
		`fn f(a) { kind(a); digest(a); abort(a); load(a); save(a, a); drop(a); after(a); }`,
		"fn f(len) { len(len); } fn g(f) { f(f); }",
	)
	faulty(t, api.ErrCheckName,
		"fn f() { @g(); }", "fn f(g) { @g(); }", "fn f(g) { let h = g; @h(); }", "fn f() { @add(1, 2); }", "fn f() { @F(); }",
		"fn f() { @g(h()); }", "fn f(a) { f(@g()); }", "fn f(a) { @g(a, b); }", "fn f(a) { a; { k: @k() }; }",
	)
	faulty(t, api.ErrCheckArity,
		"fn f() { @f(1); }", "fn f(a) { @f(); }", "fn f(a) { @f(1, 2); }", "fn f(a, b) { f(@f(1), 2); }", "fn f() { @f(f(1)); }",
		"fn f() { @g(); } fn g(a) {}", "fn f() { @f(a); }", "fn f() { @f(g()); }", "fn f(a, b, c, d, e, g, h, i) { @f(1, 2, 3, 4, 5, 6, 7); }", "fn f(a, b, c, d, e, g, h, i) { @f(1, 2, 3, 4, 5, 6, 7, 8, 9); }",
	)
	for _, name := range strings.Fields("len push change slice with without keys has kind digest abort load save drop after") {
		_, right, _ := modelBuiltin(name)
		for count := range 6 {
			call := name + "(" + strings.TrimSuffix(many("a, ", count), ", ") + ")"
			if count == right {
				fine(t, "fn f(a) { "+call+"; }")
			} else {
				faulty(t, api.ErrCheckArity, "fn f(a) { @"+call+"; }", "fn f() { 1 + @"+call+"; }")
			}
		}
	}
	// The Call is looked at ahead of its arguments, these in order.
	faulty(t, api.ErrCheckName, "fn f(a, b) { f(@x, f()); }", "fn f(a, b) { f(a, @x); }", "fn f(a, b) { f(@g(), x); }")
	faulty(t, api.ErrCheckArity, "fn f(a, b) { f(@f(), x); }", "fn f(a, b) { @f(x); }")
}

func TestP192Fields(t *testing.T) {
	fine(t,
		"fn f() { {}; {a: 1}; {a: 1, b: 2, A: 3}; }",
		"fn f() { {a: {a: 1}, b: {a: 2, b: {a: 1}}}; }",
		"fn f() { {a: 1}; {a: 1}; [{a: 1}, {a: 1}]; }",
		`fn f(a) { {a: a, f: f(a), len: len(a), "if": 1, "": 2, " ": 3}; }`,
		`fn f() { {"a ": 1, "a": 2, "\x00": 3, "\x00\x00": 4}; }`,
	)
	faulty(t, api.ErrCheckTwice,
		"fn f() { {a: 1, @a: 2}; }", `fn f() { {a: 1, @"a": 2}; }`, `fn f() { {"": 1, @"": 2}; }`, `fn f() { {"\x41": 1, @A: 2}; }`,
		"fn f() { {a: 1, b: 2, @a: 3, b: 4}; }", "fn f() { {a: 1, b: {c: 1, @c: 2}, a: 3}; }", "fn f() { {a: {a: 1}, @a: 2}; }", "fn f() { {a: 1, @a: x}; }",
		"fn f(a) { a[{b: 1, @b: 1}]; }", "fn f() { {a: 1, @a: {b: 1, b: 2}}; }", `fn f() { {"`+many("k", 32)+`": 1, @"`+many("k", 32)+`": 2}; }`,
	)
	faulty(t, api.ErrCheckName, "fn f() { {a: @x, a: 2}; }", "fn f() { {a: 1, b: @x, a: 2}; }", "fn f() { {a: 1, b: @g(), b: 1}; }")
}

func TestP192Loops(t *testing.T) {
	fine(t,
		"fn f() { while (1) { break; } while (1) { continue; } }",
		"fn f() { while (1) { if (2) { break; } else { continue; } } }",
		"fn f() { while (1) { while (2) { break; } break; } }",
		"fn f() { while (1) { if (2) {} else if (3) { continue; } } }",
		"fn f() { while (1) { return; break; continue; } }",
		"fn f() { while (1) { break; while (2) { continue; } break; } }",
	)
	faulty(t, api.ErrCheckLoop,
		"fn f() { @break; }", "fn f() { @continue; }", "fn f() { if (1) { @break; } }", "fn f() { if (1) {} else { @continue; } }",
		"fn f() { while (1) { break; } @break; }", "fn f() { while (1) { while (2) {} } @continue; }", "fn f() { return; @break; }",
		"fn f() { while (1) { while (2) { break; } break; } if (1) { @continue; } }", "fn f() { while (1) {} } fn g() { @break; }",
		"fn f() { if (1) {} else if (2) { @break; } x; }", "fn f() { @break; continue; }",
	)
}

// within is a function of a body, in which a and p are parameters and b, c Lets that are not set.
func within(body string) string { return "fn f(a, p) { let b; let c; " + body + " }" }

func TestP192Set(t *testing.T) {
	for _, body := range []string{
		"b = 1; b;", "b = a; b = b + 1; b;", "b = 1; c = b; c;", "p; p = 2; p;",
		"if (a) { b = 1; } else { b = 2; } b;", "if (a) { b = 1; b; }", "b = 1; if (a) { b; } else { b; } b;",
		"if (a) { b = 1; } else if (p) { b = 2; } else { b = 3; } b;",
		"if (a) { return; } else { b = 1; } b;", "if (a) { b = 1; } else { return a; } b;",
		"if (a) { return; b; c; } b = 1; b;", "if (a) { return; } b = 1; b;",
		"return; b;", "return a; b; c;", "return; let d; d;", "return; let d; if (a) { d; b; } d;", "return; while (b) { c; let d; d; } b;",
		"if (a) { return; } else { return; } b;", "if (a) { return; } else { return; } let d; d;", "if (a) { return; } else if (p) { return; } else { return; } b; let d; d;",
		"if (a) { if (p) { return; } else { return; } } else { b = 1; } b;", "if (a) { if (p) { return; } else { return; } let d; d; b; } else { b = 1; } b;",
		"if (a) { return; if (p) {} } else { b = 1; } b;", "if (a) { return; while (p) {} } else { b = 1; } b;",
		"while (a) { b = 1; b; }", "b = 1; while (b) { b; c = 1; c; } b;", "while (a) { break; b; }", "while (a) { continue; b; let d; d; }",
		"while (a) { if (p) { break; } else { b = 1; } b; }", "while (a) { if (p) { b = 1; } else { continue; } b; }", "while (a) { if (p) { break; } else { continue; } b; }",
		"while (a) { return; b; }", "while (a) { if (p) { return; } b = 1; b; }",
		"let d = 1; d;", "let d = a; let e = d; e;", "if (a) { let d = 1; b = d; } else { b = 1; } b;",
		"if (a) { b = 1; c = 2; } else { c = 1; b = 3; } b + c;", "if (a) { let d; d = 1; b = d; } else { let e; b = 1; } b;",
		"return; if (a) { b; } else { c; } b;", "return; if (a) { let d; d; } else if (b) { c; }", "if (a) { return; b = 1; } else { b = 1; } b;",
	} {
		fine(t, within(body))
	}
	for _, body := range []string{
		"@b;", "b = @b;", "b = @c;", "let d = @b;", "c = 1; @b;", "let d; @d;", "b = 1; let d = @c;", "return @b;", "-@b;", "len(@b);", "{b: @b};", "@b.b;", "a[@b];", "a && @b;", "[a, @b];",
		"if (@b) {}", "if (a) { @b; }", "if (a) {} else { @b; }", "if (a) { b = 1; } @b;", "if (a) {} else { b = 1; } @b;", "if (a) { b = 1; } else { @b; }", "if (a) { b = 1; } else if (@b) {}",
		"if (a) { b = 1; } else { c = 1; } @b;", "if (a) { b = 1; } else { c = 1; } @c;", "if (a) { b = 1; } else if (p) { b = 1; } @b;", "if (a) { b = 1; } else if (p) {} else { b = 1; } @b;",
		"if (a) { return; } @b;", "if (a) {} else { return; } @b;", "if (a) { return; } else { c = 1; } @b;", "if (a) { c = 1; } else { return; } @b;", "if (a) { b = 1; return; } @b;", "if (a) { return; } else if (p) { return; } @b;",
		"if (a) { return; let d; d; } let d; @d;", "if (a) { let d = 1; } let d; @d;", "while (a) { let d = 1; d; } let d; @d;", "if (a) { let d; } let e = 1; let d; e; @d;",
		"while (@b) {}", "while (@b) { b = 1; }", "while (a) { @b; b = 1; }", "while (a) { b = 1; } @b;", "while (true) { b = 1; break; } @b;", "while (true) {} @b;", "while (true) { return; } @b;", "while (a) { break; } @b;", "while (a) { continue; } @b;",
		"while (a) { if (p) { break; } @b; }", "while (a) { while (p) { break; } @b; }", "while (a) { while (p) { b = 1; } @b; }", "while (a) { if (p) { b = 1; continue; } @b; }", "while (a) { let d; @d; d = 1; }",
		"if (a) { while (p) { return; } } else { b = 1; } @b;", "if (a) { while (p) { return; } } @b;", "if (a) { if (p) { return; } } else { b = 1; } @b;",
		"while (a) { return; } let d; @d;", "while (a) { b = 1; c = b; } @c;", "if (a) { return; } else { while (p) { b = 1; } } @b;",
	} {
		faulty(t, api.ErrCheckUnset, within(body))
	}
	// What is set in one function is none in another one.
	faulty(t, api.ErrCheckUnset, "fn f() { let b = 1; b; } fn g() { let b; @b; }", "fn f() { return; } fn g() { let b; @b; }", "fn f(b) { b; } fn g(a) { let b; a; @b; }")
}

// sequences are all rows of at most so many statements, each of which is one of some.
func sequences(most int, some []string) []string {
	all := []string{""}
	last := all
	for range most {
		var longer []string
		for _, s := range last {
			for _, one := range some {
				longer = append(longer, s+one)
			}
		}
		all = append(all, longer...)
		last = longer
	}
	return all
}

// Every function of a few statements about one variable.
func TestP192EveryWay(t *testing.T) {
	simple := []string{"b = 1; ", "b; ", "return; ", "break; ", "let d; ", "d; "}
	rows := sequences(2, simple)
	inner := sequences(1, simple)
	some := slices.Clone(simple)
	for _, one := range rows {
		some = append(some, "while (a) { "+one+"} ", "if (a) { "+one+"} ")
	}
	for _, one := range inner {
		for _, two := range inner {
			some = append(some, "if (a) { "+one+"} else { "+two+"} ", "while (a) { if (a) { "+one+"} else { "+two+"} b; } ", "while (a) { if (a) { "+one+"} b; } ")
		}
	}
	seen := map[api.Errno]int{}
	for _, row := range sequences(2, some) {
		for _, s := range []string{"fn f(a) { let b; " + row + "b; }", "fn f(a) { let b; while (a) { " + row + "b; } d; }"} {
			n, _, e := parse.Program(s)
			if e != api.OK {
				t.Fatalf("%q is no source", s)
			}
			seen[asModel(t, n)]++
		}
	}
	for _, e := range []api.Errno{api.OK, api.ErrCheckName, api.ErrCheckTwice, api.ErrCheckUnset, api.ErrCheckLoop} {
		if seen[e] < 100 {
			t.Errorf("only %d answers are %v", seen[e], e)
		}
	}
}

// grower makes random programs. Most of what it makes may be run; now and then, as often as slips says, something may
// not.
type grower struct {
	dice    *rand.Rand
	slips   int
	heads   []api.Node // the functions, without their Blocks
	visible []string
	loops   int
	room    int
}

func (g *grower) slip() bool { return g.slips > 0 && g.dice.Intn(g.slips) == 0 }

func (g *grower) pick(l ...string) string { return l[g.dice.Intn(len(l))] }

func (g *grower) name() string {
	if len(g.visible) == 0 || g.slip() {
		return g.pick("a", "b", "c", "d", "e", "f", "len")
	}
	return g.pick(g.visible...)
}

// fresh is a name that is not visible, or nearly so.
func (g *grower) fresh() string {
	for range 20 {
		name := g.pick("a", "b", "c", "d", "e", "g", "h", "len", "f", "F", "x1")
		if !slices.Contains(g.visible, name) || g.slip() {
			return name
		}
	}
	return fmt.Sprint("n", g.dice.Intn(1000))
}

func (g *grower) exprs(depth, count int) []api.Node {
	l := make([]api.Node, 0, count+g.dice.Intn(2))
	for range count {
		l = append(l, g.expr(depth))
	}
	return l
}

func (g *grower) expr(depth int) api.Node {
	g.room--
	if depth <= 0 || g.room < 0 || g.dice.Intn(3) == 0 {
		if len(g.visible) == 0 && !g.slip() || g.dice.Intn(3) == 0 {
			return number(int64(g.dice.Intn(5)))
		}
		return named(g.name())
	}
	switch g.dice.Intn(9) {
	case 0:
		return node(api.Unary, g.pick("-", "!"), g.expr(depth-1))
	case 1:
		return node(api.At, "", g.exprs(depth-1, 2)...)
	case 2:
		return node(api.Dot, g.pick("a", "k"), g.expr(depth-1))
	case 3, 4:
		return g.call(depth)
	case 5:
		return node(api.List, "", g.exprs(depth-1, g.dice.Intn(4))...)
	case 6:
		return g.fields(depth)
	}
	return node(api.Binary, g.pick(strings.Fields("|| && == != < <= > >= + - * / %")...), g.exprs(depth-1, 2)...)
}

func (g *grower) call(depth int) api.Node {
	i := g.dice.Intn(len(g.heads) + 3)
	name, count := g.pick("len", "save", "slice", "load"), 0
	if i < len(g.heads) {
		name, count = g.heads[i].Text, len(g.heads[i].Kids)
	} else {
		_, count, _ = modelBuiltin(name)
	}
	if g.slip() {
		name = g.pick("nothing", "add", "a", "b")
	}
	if g.slip() {
		count = g.dice.Intn(4)
	}
	return node(api.Call, name, g.exprs(depth-1, count)...)
}

func (g *grower) fields(depth int) api.Node {
	n := node(api.Fields, "")
	for i := range g.dice.Intn(4) {
		key := fmt.Sprint("k", i)
		if g.slip() {
			key = "k0"
		}
		n.Kids = append(n.Kids, node(api.Pair, key, g.expr(depth-1)))
	}
	return n
}

func (g *grower) block(depth int) api.Node {
	outer := len(g.visible)
	n := block()
	for range g.dice.Intn(5) {
		n.Kids = append(n.Kids, g.statement(depth))
	}
	g.visible = g.visible[:outer]
	return n
}

func (g *grower) statement(depth int) api.Node {
	if g.room--; g.room < 0 {
		return node(api.Return, "")
	}
	switch k := g.dice.Intn(14); {
	case k < 3:
		n := node(api.Let, "", g.exprs(2, g.dice.Intn(2))...)
		n.Text = g.fresh()
		g.visible = append(g.visible, n.Text)
		return n
	case k < 6 && (len(g.visible) > 0 || g.slip()):
		return node(api.Set, g.name(), g.expr(2))
	case k < 8 && depth > 0:
		return g.choice(depth)
	case k < 9 && depth > 0:
		condition := g.expr(1)
		g.loops++
		n := node(api.While, "", condition, g.block(depth-1))
		g.loops--
		return n
	case k < 10:
		return node(api.Return, "", g.exprs(2, g.dice.Intn(2))...)
	case k < 12 && (g.loops > 0 || g.slip()):
		return node(api.Break+g.dice.Intn(2), "")
	}
	return do(g.expr(3))
}

func (g *grower) choice(depth int) api.Node {
	n := node(api.If, "", g.expr(1), g.block(depth-1))
	switch g.dice.Intn(3) {
	case 0:
		n.Kids = append(n.Kids, g.block(depth-1))
	case 1:
		n.Kids = append(n.Kids, g.choice(depth-1))
		if depth < -4 {
			n.Kids = n.Kids[:2]
		}
	}
	return n
}

func (g *grower) head(i int) api.Node {
	n := node(api.Fn, string(rune('f'+i)))
	n.Flag = g.dice.Intn(2) == 0
	if g.slip() {
		n.Text = g.pick("f", "len", "g")
	}
	g.visible = nil
	count := g.dice.Intn(4)
	if g.slip() {
		count = 7 + g.dice.Intn(3)
	}
	for range count {
		g.visible = append(g.visible, g.fresh())
		n.Kids = append(n.Kids, node(api.Param, g.visible[len(g.visible)-1]))
	}
	return n
}

func (g *grower) program(depth int) api.Node {
	for i := range g.dice.Intn(4) {
		g.heads = append(g.heads, g.head(i))
	}
	n := node(api.Program, "")
	for _, fn := range g.heads {
		g.visible = nil
		for _, param := range fn.Kids {
			g.visible = append(g.visible, param.Text)
		}
		fn.Kids = append(slices.Clone(fn.Kids), g.block(depth))
		n.Kids = append(n.Kids, fn)
	}
	return n
}

// each calls do with each node of a tree, the outer ones first.
func each(n *api.Node, do func(n *api.Node)) {
	do(n)
	for i := range n.Kids {
		each(&n.Kids[i], do)
	}
}

// grown is a random program, each of whose nodes has a place of its own.
func grown(dice *rand.Rand, slips int) api.Node {
	g := &grower{dice: dice, slips: slips, room: 60}
	n := g.program(1 + dice.Intn(4))
	next := dice.Intn(50) - 20
	each(&n, func(n *api.Node) {
		next += 1 + dice.Intn(3)
		n.At = next
	})
	return n
}

func TestP192Grown(t *testing.T) {
	dice := rand.New(rand.NewSource(1902))
	seen := map[api.Errno]int{}
	for i := range 60000 {
		seen[asModel(t, grown(dice, []int{0, 10, 40, 150}[i%4]))]++
	}
	for _, e := range []api.Errno{api.OK, api.ErrCheckTwice, api.ErrCheckName, api.ErrCheckArity, api.ErrCheckUnset, api.ErrCheckLoop, api.ErrCheckParams} {
		if seen[e] < 500 {
			t.Errorf("only %d answers are %v: %v", seen[e], e, seen)
		}
	}
}

// The same by sources, with the places that parse tells.
func TestP192Read(t *testing.T) {
	dice := rand.New(rand.NewSource(1903))
	count := 0
	for range 10000 {
		s, e := print.Program(grown(dice, 30))
		if e != api.OK || len(s) > api.MaxSource {
			continue
		}
		n, _, e := parse.Program(s)
		if e != api.OK {
			t.Fatalf("%q is no source", s)
		}
		asModel(t, n)
		count++
	}
	if count < 5000 {
		t.Errorf("only %d were read", count)
	}
}

// spoilt is a tree of which a part was changed.
func spoilt(dice *rand.Rand, n api.Node) api.Node {
	n = copied(n)
	var all []*api.Node
	each(&n, func(n *api.Node) { all = append(all, n) })
	one, other := all[dice.Intn(len(all))], *all[dice.Intn(len(all))]
	switch dice.Intn(8) {
	case 0:
		one.Kind = dice.Intn(25) - 1
	case 1:
		one.Text = []string{"", "a", "if", "len", "-", "&&", many("k", 21), many("k", 33)}[dice.Intn(8)]
	case 2:
		one.Flag = !one.Flag
	case 3:
		one.Val = []api.Value{{Kind: api.Int, N: -1}, {Kind: api.Array}, {N: 1}, {Kind: 9}, {S: "x"}, {K: []string{""}}}[dice.Intn(6)]
	case 4:
		one.Kids = append(slices.Clone(one.Kids), copied(other))
	case 5:
		if len(one.Kids) > 0 {
			one.Kids = one.Kids[:len(one.Kids)-1]
		}
	case 6:
		one.Kids = nil
	case 7:
		*one = copied(other)
	}
	return n
}

func TestP192Spoilt(t *testing.T) {
	dice := rand.New(rand.NewSource(1904))
	seen := map[api.Errno]int{}
	for range 30000 {
		seen[asModel(t, spoilt(dice, grown(dice, 100)))]++
	}
	if seen[api.OK] < 500 || seen[api.ErrCheckForm] < 5000 || seen[api.ErrCheckTwice] < 100 || seen[api.ErrCheckName] < 100 {
		t.Errorf("too few: %v", seen)
	}
}

// copied is a tree in memory of its own.
func copied(n api.Node) api.Node {
	kids := make([]api.Node, len(n.Kids))
	for i, kid := range n.Kids {
		kids[i] = copied(kid)
	}
	n.Kids = kids
	return n
}

// What is wrong is told wherever the nodes stand: each place comes out as it went in.
func TestP193Places(t *testing.T) {
	dice := rand.New(rand.NewSource(1905))
	for range 5000 {
		n := grown(dice, 20)
		place, e := check.Program(n)
		moved := map[int]int{0: 0}
		each(&n, func(n *api.Node) {
			to := int(dice.Uint64())
			if dice.Intn(10) == 0 {
				to = []int{0, -1, math.MaxInt, math.MinInt}[dice.Intn(4)]
			}
			moved[n.At] = to
			n.At = to
		})
		want := moved[place]
		if e == api.OK {
			want = 0
		}
		answers(t, n, want, e)
	}
	for _, place := range []int{0, -1, 5, math.MaxInt, math.MinInt} {
		answers(t, program(at(1, do(at(place, named("a"))))), place, api.ErrCheckName)
		answers(t, node(api.Program, "", at(place, node(api.Fn, "len", block()))), place, api.ErrCheckTwice)
		answers(t, at(place, program(at(place, do(at(place, number(1)))))), 0, api.OK)
	}
}

func TestP193ExportsAndLits(t *testing.T) {
	dice := rand.New(rand.NewSource(1906))
	values := []api.Value{{}, {Kind: api.Bool}, {Kind: api.Bool, N: 1}, {Kind: api.Int, N: math.MaxInt64}, {Kind: api.Bytes}, {Kind: api.Bytes, S: "a"}, {Kind: api.Bytes, S: many("x", 2047)}}
	for range 5000 {
		n := grown(dice, 20)
		place, e := check.Program(n)
		each(&n, func(n *api.Node) {
			if n.Kind == api.Fn {
				n.Flag = dice.Intn(2) == 0
			}
			if n.Kind == api.Lit {
				n.Val = values[dice.Intn(len(values))]
			}
		})
		answers(t, n, place, e)
	}
	faulty(t, api.ErrCheckUnset, "fn f() { let a; if (true) { a = 1; } @a; }", "fn f() { let a; while (true) { a = 1; } @a; }", "fn f() { let a; if (false) { } else { a = 1; } @a; }")
	faulty(t, api.ErrCheckUnset, "fn f() { let a; if (false) { @a; } }", "fn f() { let a; while (false) { @a; } }", "fn f() { let a; false && @a; }", "fn f() { let a; true || @a; }")
}

func TestP193OneMore(t *testing.T) {
	dice := rand.New(rand.NewSource(1907))
	count := 0
	for range 5000 {
		n := grown(dice, 20)
		place, e := check.Program(n)
		more := grown(dice, 0)
		for _, fn := range more.Kids {
			fn.Text = "zz"
			alone := node(api.Program, "", fn)
			if _, e := check.Program(alone); e != api.OK {
				continue
			}
			answers(t, node(api.Program, "", append(slices.Clone(n.Kids), fn)...), place, e)
			count++
		}
	}
	if count < 1000 {
		t.Errorf("only %d were one more", count)
	}
	fine(t, "fn f() {} fn zz(a) { zz(a); }")
	faulty(t, api.ErrCheckName, "fn f() { @g(); } fn zz() {}")
}

// lets is so many Lets of names of their own.
func lets(count int, kids ...api.Node) []api.Node {
	var l []api.Node
	for i := range count {
		l = append(l, node(api.Let, fmt.Sprint("v", i), kids...))
	}
	return l
}

// Trees of as many parts as may be are gone through in good time.
func TestP192Great(t *testing.T) {
	// Each If in the else of the one ahead sets a variable that no other one sets; the last one is behind all of them.
	chain := block()
	var tail api.Node
	for i := range 2400 {
		one := node(api.If, "", number(1), block(node(api.Set, "z", number(1)), node(api.Set, fmt.Sprint("v", i), number(1))))
		if i == 0 {
			one.Kids = append(one.Kids, block(node(api.Set, "z", number(1))))
		} else {
			one.Kids = append(one.Kids, tail)
		}
		tail = one
	}
	chain.Kids = append(lets(2400), node(api.Let, "z"), tail, do(named("z")))
	answers(t, node(api.Program, "", node(api.Fn, "f", chain)), 0, api.OK)
	chain.Kids = append(chain.Kids, do(at(7, named("v0"))))
	answers(t, node(api.Program, "", node(api.Fn, "f", chain)), 7, api.ErrCheckUnset)

	row := lets(9000)
	for range 2400 {
		row = append(row, node(api.If, "", number(1), block(node(api.Return, ""))))
	}
	answers(t, program(append(row, node(api.Set, "v8999", number(1)), do(named("v8999")))...), 0, api.OK)
	answers(t, program(append(row, do(at(8, named("v8999"))))...), 8, api.ErrCheckUnset)

	sum := named("v0")
	for range 9990 {
		sum = node(api.Binary, "+", sum, number(1))
	}
	answers(t, program(lets(1, number(1))[0], do(sum)), 0, api.OK)

	fields := node(api.Fields, "")
	for i := range 9900 {
		fields.Kids = append(fields.Kids, node(api.Pair, fmt.Sprint("k", i), number(1)))
	}
	answers(t, program(do(fields)), 0, api.OK)
	fields.Kids = append(fields.Kids, at(9, node(api.Pair, "k0", number(1))))
	answers(t, program(do(fields)), 9, api.ErrCheckTwice)

	var calls []api.Node
	for range 9990 {
		calls = append(calls, do(node(api.Call, "f")))
	}
	answers(t, program(calls...), 0, api.OK)
	answers(t, program(do(at(4, node(api.Call, "f", calls[0].Kids...)))), 4, api.ErrCheckArity)

	all := node(api.Program, "")
	for i := range 9900 {
		all.Kids = append(all.Kids, node(api.Fn, fmt.Sprint("f", i), block()))
	}
	answers(t, all, 0, api.OK)
	all.Kids = append(all.Kids, at(6, node(api.Fn, "f0", block())))
	answers(t, all, 6, api.ErrCheckTwice)
}

// A part too many is no tree, whatever else is wrong.
func TestP192Parts(t *testing.T) {
	flat := func(parts int) api.Node { // Program, Fn, Block, and the rest Breaks outside of a loop
		l := make([]api.Node, parts-3)
		for i := range l {
			l[i] = at(i+1, node(api.Break, ""))
		}
		return program(l...)
	}
	answers(t, flat(api.MaxNodes), 1, api.ErrCheckLoop)
	answers(t, flat(api.MaxNodes+1), 0, api.ErrCheckForm)
	deep := named("x")
	for range 24 {
		deep = node(api.Unary, "-", deep)
	}
	answers(t, program(do(deep)), 0, api.ErrCheckForm) // its Block is open, too
	answers(t, program(do(deep.Kids[0])), 0, api.ErrCheckName)
}

func TestR1Endless(t *testing.T) {
	kids := make([]api.Node, 1)
	kids[0] = node(api.Block, "", kids...)
	kids[0].Kids = kids // a Block that stands in itself
	answers(t, program(node(api.While, "", number(1), kids[0])), 0, api.ErrCheckForm)
	ends := []api.Node{node(api.Unary, "-", number(1))}
	ends[0].Kids = ends
	answers(t, program(do(ends[0])), 0, api.ErrCheckForm)
	twice := number(1)
	for range 60 { // two to the power of 60 parts
		twice = node(api.List, "", twice, twice)
	}
	answers(t, program(do(twice)), 0, api.ErrCheckForm)
	others := named("a")
	for range 65000 {
		others = node(api.Dot, "k", others)
	}
	answers(t, program(do(others)), 0, api.ErrCheckForm)
	l := []api.Value{{Kind: api.Array}}
	l[0].L = l
	answers(t, program(do(api.Node{Kind: api.Lit, Val: l[0]})), 0, api.ErrCheckForm)
	// One list of statements in many places is read in each of them.
	shared := []api.Node{node(api.Let, "v", number(1)), do(named("v"))}
	answers(t, program(node(api.If, "", number(1), block(shared...), block(shared...)), shared[0], shared[1]), 0, api.OK)
}

// roomy is a tree whose lists have spare room, filled with nodes that must stay.
func roomy(n api.Node) api.Node {
	kids := make([]api.Node, 0, len(n.Kids)+2)
	for _, kid := range n.Kids {
		kids = append(kids, roomy(kid))
	}
	_ = append(kids, at(77, named("spare")), at(78, named("room")))
	n.Kids = kids
	return n
}

// whole is a tree with its spare room, as a text.
func whole(n api.Node) string {
	var out strings.Builder
	fmt.Fprintf(&out, "(%d %q %v %t %d", n.Kind, n.Text, n.Val, n.Flag, n.At)
	for _, kid := range n.Kids[:cap(n.Kids)] {
		out.WriteString(whole(kid))
	}
	return out.String() + ")"
}

func TestR3NothingIsWritten(t *testing.T) {
	dice := rand.New(rand.NewSource(1908))
	for range 3000 {
		n := roomy(grown(dice, 50))
		before, again := whole(n), copied(n)
		place, e := check.Program(n)
		if whole(n) != before || !reflect.DeepEqual(copied(n), again) {
			t.Fatalf("%s was written into", brief(n))
		}
		each(&n, func(n *api.Node) {
			if len(n.Kids) == 0 {
				n.Kids = nil
			}
		})
		answers(t, n, place, e)
	}
}

func TestR4NothingIsKept(t *testing.T) {
	dice := rand.New(rand.NewSource(1909))
	trees := make([]api.Node, 400)
	places, faults := make([]int, len(trees)), make([]api.Errno, len(trees))
	for i := range trees {
		trees[i] = grown(dice, 25)
		places[i], faults[i] = check.Program(trees[i])
	}
	var all sync.WaitGroup
	for worker := range 8 {
		all.Go(func() {
			dice := rand.New(rand.NewSource(int64(worker)))
			for range 3000 {
				i := dice.Intn(len(trees))
				if place, e := check.Program(trees[i]); place != places[i] || e != faults[i] {
					t.Errorf("%s\nis %d, %v, and was %d, %v", brief(trees[i]), place, e, places[i], faults[i])
					return
				}
				builtin(t, "after", 41, 1, true)
			}
		})
	}
	all.Wait()
}
