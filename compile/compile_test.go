package compile_test

import (
	"fmt"
	"reflect"
	"slices"
	"strings"
	"testing"

	"scruple/api"
	"scruple/asm"
	"scruple/compile"
	"scruple/module"
	"scruple/parse"
	"scruple/print"
	"scruple/verify"
)

func truth(is bool) api.Value {
	if is {
		return api.Value{Kind: api.Bool, N: 1}
	}
	return api.Value{Kind: api.Bool}
}

func number(n int64) api.Value { return api.Value{Kind: api.Int, N: n} }

func text(s string) api.Value { return api.Value{Kind: api.Bytes, S: s} }

// node is one of a kind, with a Text and Kids.
func node(kind int, text string, kids ...api.Node) api.Node {
	return api.Node{Kind: kind, Text: text, Kids: kids}
}

func named(text string) api.Node { return node(api.Name, text) }

func lit(v api.Value) api.Node { return api.Node{Kind: api.Lit, Val: v} }

func do(n api.Node) api.Node { return node(api.Do, "", n) }

func block(l ...api.Node) api.Node { return node(api.Block, "", l...) }

// fn is a Fn without parameters.
func fn(name string, l ...api.Node) api.Node { return node(api.Fn, name, block(l...)) }

// placed is a node at another place.
func placed(n api.Node, at int) api.Node {
	n.At = at
	return n
}

// times is a node so often.
func times(n api.Node, count int) []api.Node { return slices.Repeat([]api.Node{n}, count) }

func many(s string, count int) string { return strings.Repeat(s, count) }

// listing is the same thing so often, parted by commas.
func listing(thing string, count int) string {
	return strings.TrimSuffix(many(thing+", ", count), ", ")
}

// tree is a source's.
func tree(t *testing.T, s string) api.Node {
	t.Helper()
	n, at, e := parse.Program(s)
	if e != api.OK {
		t.Fatalf("parse.Program of %.300s: %d at %d", s, e, at)
	}
	return n
}

// lines are a module's text by asm, parted by /.
func lines(m api.Module) string {
	s, e := asm.Print(m)
	if e != api.OK {
		return fmt.Sprintf("error %d of %.300v", e, m)
	}
	return strings.ReplaceAll(strings.TrimSuffix(s, "\n"), "\n", "/")
}

// holds asks of a module what is so of all that are answered.
func holds(t *testing.T, what any, m api.Module) {
	t.Helper()
	if !module.Right(m) {
		t.Errorf("P21.4: %v: the module is not right", what)
	}
	if f := verify.Module(m); f != (api.Fault{}) {
		t.Errorf("P21.4: %v: verify.Module: %v", what, f)
	}
}

// makes holds a source's module against the text that is wanted.
func makes(t *testing.T, s, want string) {
	t.Helper()
	m, at, e := compile.Source(s)
	if got := lines(m); e != api.OK || at != 0 || got != want {
		t.Errorf("Source of %.300s: %d at %d\n got %.2000s\nwant %.2000s", s, e, at, got, want)
	}
	holds(t, s, m)
	n, at, e := compile.Program(tree(t, s))
	if e != api.OK || at != 0 || !reflect.DeepEqual(n, m) {
		t.Errorf("Program of %.300s: %d at %d, %.300s", s, e, at, lines(n))
	}
}

// brief is a tree as a text that is not too long: of a longer one its beginning and its end.
type brief api.Node

// String is asked for only when something is wrong: to print trees takes its time.
func (n brief) String() string {
	s, _ := print.Program(api.Node(n))
	return short(strings.ReplaceAll(s, "\n\t", " "))
}

func short(s string) string {
	if len(s) > 300 {
		s = s[:100] + " .. " + s[len(s)-200:]
	}
	return s
}

// refuses asks for an error, its place, and nothing else.
func refuses(t *testing.T, n api.Node, at int, code api.Errno) {
	t.Helper()
	m, place, e := compile.Program(n)
	if e != code || place != at || !reflect.DeepEqual(m, api.Module{}) {
		t.Errorf("Program of %s: %d at %d, want %d at %d; beside it %.300s", brief(n), e, place, code, at, lines(m))
	}
}

// refusesSource asks for the same of a source, in which check finds nothing wrong.
func refusesSource(t *testing.T, s string, at int, code api.Errno) {
	t.Helper()
	m, place, e := compile.Source(s)
	if e != code || place != at || !reflect.DeepEqual(m, api.Module{}) {
		t.Errorf("Source of %s: %d at %d, want %d at %d (%.20s); beside it %.300s", short(s), e, place, code, at, s[at:], lines(m))
	}
	refuses(t, tree(t, s), at, code)
}

// takes is the module of a tree that is not refused.
func takes(t *testing.T, n api.Node) api.Module {
	t.Helper()
	m, at, e := compile.Program(n)
	if e != api.OK || at != 0 {
		t.Errorf("Program of %s: %d at %d", brief(n), e, at)
	}
	holds(t, brief(n), m)
	return m
}

func TestExamples(t *testing.T) {
	makes(t, "export fn f(a) { return a + 1; }", ".const 1/.const unit/.func 1 1 2/get 0/const 0/add/ret/const 1/ret/.export f 0")
	makes(t, "fn f(a) { while (a) { a = false; } }", ".const false/.const unit/.func 1 1 1/get 0/unless 12/const 0/set 0/jump 0/const 1/ret")
	makes(t, "fn f(a) { a && !a; }", ".const false/.const unit/.func 1 1 1/get 0/unless 12/get 0/not/test/jump 14/const 0/pop/const 1/ret")
	makes(t, "fn f() { {b: 1, a: 2}.a; }", `.const 1/.const 2/.const ["b", "a"]/.const "a"/.const unit/.func 0 0 2/const 0/const 1/record 2/field 3/pop/const 4/ret`)
	makes(t, "export fn b() { } export fn a() { }", ".const unit/.func 0 0 1/const 0/ret/.func 0 0 1/const 0/ret/.export a 1/.export b 0")
	refusesSource(t, "fn f() { ["+listing("1", 41)+"]; }", 9, api.ErrCompileStack)
	m, _, _ := compile.Source("export fn f(a) { return a + 1; }")
	b, e := module.Encode(m)
	want := "SCM1\x01\x04\x02\x03\x02\x00\x02\x0e\x01\x01\x01\x02\x09\x02\x00\x01\x00\x0a\x09\x01\x01\x09\x03\x04\x01\x01\x66\x00"
	if e != api.OK || string(b) != want {
		t.Errorf("the bytes are %x, want %x", b, want)
	}
}

// TestP211Nothing: a tree without Fns is a module without anything.
func TestP211Nothing(t *testing.T) {
	makes(t, "", "")
	makes(t, " // nothing\n", "")
	if m := takes(t, node(api.Program, "")); len(m.Consts)+len(m.Funcs)+len(m.Exports) > 0 {
		t.Errorf("P21.1: %v", m)
	}
}

// body is the code of f(a, b, c), of which these are the statements: all but the const and the ret behind them. The
// constants stand behind |, but for a unit that is the last one.
func body(t *testing.T, statements string) string {
	t.Helper()
	s := "fn f(a, b, c) { " + statements + " } fn g() { } fn h(a, b) { }"
	m, at, e := compile.Source(s)
	if e != api.OK {
		t.Errorf("Source of %s: %d at %d", s, e, at)
		return ""
	}
	holds(t, s, m)
	all := strings.Split(lines(m), "/.func ")
	code := strings.Split(all[1], "/")[1:]
	consts := strings.TrimSuffix(strings.ReplaceAll("/"+all[0], "/.const ", " "), " unit")
	unit := fmt.Sprint("const ", slices.IndexFunc(m.Consts, func(v api.Value) bool { return v.Kind == api.Unit }))
	if end := code[len(code)-2:]; end[0] != unit || end[1] != "ret" {
		t.Errorf("P21.1: %s ends with %s", s, end)
	}
	return strings.TrimSuffix(strings.Join(code[:len(code)-2], "/")+" |"+consts, " |")
}

// TestP211Forms: each form is the instructions that DOC.md says.
func TestP211Forms(t *testing.T) {
	for s, want := range map[string]string{
		"":                              "",
		"a;":                            "get 0/pop",
		"c;":                            "get 2/pop",
		"7;":                            "const 0/pop | 7",
		`"x";`:                          `const 0/pop | "x"`,
		"true;":                         "const 0/pop | true",
		"false;":                        "const 0/pop | false",
		"unit;":                         "const 0/pop",
		"9223372036854775807;":          "const 0/pop | 9223372036854775807",
		`"\x00\xff";`:                   `const 0/pop | "\x00\xff"`,
		"-a;":                           "get 0/neg/pop",
		"!a;":                           "get 0/not/pop",
		"-1;":                           "const 0/neg/pop | 1",
		"-!-a;":                         "get 0/neg/not/neg/pop",
		"a + b;":                        "get 0/get 1/add/pop",
		"a - b;":                        "get 0/get 1/sub/pop",
		"a * b;":                        "get 0/get 1/mul/pop",
		"a / b;":                        "get 0/get 1/div/pop",
		"a % b;":                        "get 0/get 1/rem/pop",
		"a == b;":                       "get 0/get 1/eq/pop",
		"a != b;":                       "get 0/get 1/ne/pop",
		"a < b;":                        "get 0/get 1/lt/pop",
		"a <= b;":                       "get 0/get 1/le/pop",
		"a > b;":                        "get 0/get 1/gt/pop",
		"a >= b;":                       "get 0/get 1/ge/pop",
		"a - b - c;":                    "get 0/get 1/sub/get 2/sub/pop",
		"a - (b - c);":                  "get 0/get 1/get 2/sub/sub/pop",
		"a && b;":                       "get 0/unless 11/get 1/test/jump 13/const 0/pop | false",
		"a || b;":                       "get 0/unless 10/const 0/jump 13/get 1/test/pop | true",
		"a && b && c;":                  "get 0/unless 11/get 1/test/jump 13/const 0/unless 22/get 2/test/jump 24/const 0/pop | false",
		"a || b && c;":                  "get 0/unless 10/const 0/jump 24/get 1/unless 21/get 2/test/jump 23/const 1/test/pop | true false",
		"a || (b || c);":                "get 0/unless 10/const 0/jump 24/get 1/unless 20/const 0/jump 23/get 2/test/test/pop | true",
		"(a && b) == c;":                "get 0/unless 11/get 1/test/jump 13/const 0/get 2/eq/pop | false",
		"c == (a && b);":                "get 2/get 0/unless 13/get 1/test/jump 15/const 0/eq/pop | false",
		"[];":                           "array 0/pop",
		"[a];":                          "get 0/array 1/pop",
		"[a, [b], c];":                  "get 0/get 1/array 1/get 2/array 3/pop",
		"{};":                           "record 0/pop | []",
		"{k: a};":                       `get 0/record 0/pop | ["k"]`,
		`{z: a, "": b, k: c};`:          `get 0/get 1/get 2/record 0/pop | ["z", "", "k"]`,
		`{x: {x: a}, y: {}};`:           `get 0/record 0/record 1/record 2/pop | ["x"] [] ["x", "y"]`,
		"a[b];":                         "get 0/get 1/index/pop",
		"a[b][c];":                      "get 0/get 1/index/get 2/index/pop",
		"a[b[c]];":                      "get 0/get 1/get 2/index/index/pop",
		"a.k;":                          `get 0/field 0/pop | "k"`,
		"a.k.l.k;":                      `get 0/field 0/field 1/field 0/pop | "k" "l"`,
		"a.k[b];":                       `get 0/field 0/get 1/index/pop | "k"`,
		"g();":                          "call 1/pop",
		"h(a, b);":                      "get 0/get 1/call 2/pop",
		"h(g(), h(a, b));":              "call 1/get 0/get 1/call 2/call 2/pop",
		"f(c, b, a);":                   "get 2/get 1/get 0/call 0/pop",
		"len(a);":                       "get 0/len/pop",
		"push(a, b);":                   "get 0/get 1/push/pop",
		"change(a, b, c);":              "get 0/get 1/get 2/change/pop",
		"slice(a, b, c);":               "get 0/get 1/get 2/slice/pop",
		"with(a, b, c);":                "get 0/get 1/get 2/with/pop",
		"without(a, b);":                "get 0/get 1/without/pop",
		"keys(a);":                      "get 0/keys/pop",
		"has(a, b);":                    "get 0/get 1/has/pop",
		"kind(a);":                      "get 0/kind/pop",
		"digest(a);":                    "get 0/digest/pop",
		"abort(a);":                     "get 0/abort/pop",
		"load(a);":                      "get 0/load/pop",
		"save(a, b);":                   "get 0/get 1/save/pop",
		"drop(a);":                      "get 0/drop/pop",
		"after(a);":                     "get 0/after/pop",
		"let d;":                        "",
		"let d = a;":                    "get 0/set 3",
		"a = b;":                        "get 1/set 0",
		"a = a + b;":                    "get 0/get 1/add/set 0",
		"let d; d = a; d;":              "get 0/set 3/get 3/pop",
		"return;":                       "const 0/ret",
		"return a;":                     "get 0/ret",
		"return; a;":                    "const 0/ret/get 0/pop",
		"return unit;":                  "const 0/ret",
		"if (a) { }":                    "get 0/unless 5",
		"if (a) { b; }":                 "get 0/unless 8/get 1/pop",
		"if (a) { } else { }":           "get 0/unless 8/jump 8",
		"if (a) { b; } else { c; }":     "get 0/unless 11/get 1/pop/jump 14/get 2/pop",
		"if (a) { } else if (b) { } c;": "get 0/unless 8/jump 13/get 1/unless 13/get 2/pop",
		"if (a) { a; } else if (b) { b; } else { c; }":       "get 0/unless 11/get 0/pop/jump 25/get 1/unless 22/get 1/pop/jump 25/get 2/pop",
		"if (a) { if (b) { c; } }":                           "get 0/unless 13/get 1/unless 13/get 2/pop",
		"if (a) { return; } else { return b; }":              "get 0/unless 11/const 0/ret/jump 14/get 1/ret",
		"if (a && b) { c; }":                                 "get 0/unless 11/get 1/test/jump 13/const 0/unless 19/get 2/pop | false",
		"while (a) { }":                                      "get 0/unless 8/jump 0",
		"c; while (a) { b; }":                                "get 2/pop/get 0/unless 14/get 1/pop/jump 3",
		"while (a) { break; }":                               "get 0/unless 11/jump 11/jump 0",
		"while (a) { continue; }":                            "get 0/unless 11/jump 0/jump 0",
		"while (a) { break; continue; break; }":              "get 0/unless 17/jump 17/jump 0/jump 17/jump 0",
		"while (a) { while (b) { break; } break; }":          "get 0/unless 22/get 1/unless 16/jump 16/jump 5/jump 22/jump 0",
		"while (a) { while (b) { continue; } continue; }":    "get 0/unless 22/get 1/unless 16/jump 5/jump 5/jump 0/jump 0",
		"while (a) { if (b) { break; } else { continue; } }": "get 0/unless 22/get 1/unless 16/jump 22/jump 19/jump 0/jump 0",
		"while (a) { } while (b) { break; }":                 "get 0/unless 8/jump 0/get 1/unless 19/jump 19/jump 8",
	} {
		if got := body(t, s); got != want {
			t.Errorf("P21.1: %s\n got %s\nwant %s", s, got, want)
		}
	}
}
