package chain_test

import (
	"crypto/sha256"
	"fmt"
	"math"
	"reflect"
	"slices"
	"strings"
	"testing"

	"scruple/api"
	"scruple/asm"
	"scruple/chain"
	"scruple/compile"
	"scruple/hash"
	"scruple/module"
	"scruple/state"
	"scruple/store"
	"scruple/value"
)

var unit = api.Value{}

func truth(n int64) api.Value { return api.Value{Kind: api.Bool, N: n} }

func number(n int64) api.Value { return api.Value{Kind: api.Int, N: n} }

func text(s string) api.Value { return api.Value{Kind: api.Bytes, S: s} }

func list(l ...api.Value) api.Value { return api.Value{Kind: api.Array, L: l} }

// heavy is a value of that weight.
func heavy(weight int) api.Value { return text(strings.Repeat("h", weight-1)) }

func many(s string, count int) string { return strings.Repeat(s, count) }

func source(name, body string) api.Act {
	return api.Act{Kind: api.ActSource, Name: name, Body: body}
}

func bytes(name, body string) api.Act {
	return api.Act{Kind: api.ActModule, Name: name, Body: body}
}

func call(name, entry string, gas int64, args ...api.Value) api.Act {
	return api.Act{Kind: api.ActCall, Name: name, Entry: entry, Args: args, Gas: gas}
}

// told is a receipt, but for its Digest; with "and more" if something is there that its kind does not name.
func told(r api.Receipt) string {
	out := "ok"
	o := r.Outcome
	switch {
	case r.Code != api.OK:
		out = fmt.Sprintf("error %d at %d", int(r.Code), r.At)
		r.Code, r.At = api.OK, 0
	case o.Kind == api.Returned:
		out = fmt.Sprintf("%s, left %d, used %d", value.Print(o.Value), o.Left, r.Used)
		r.Outcome, r.Used = api.Outcome{}, 0
	case o.Kind == api.Trapped:
		out = fmt.Sprintf("trap %d, left %d, used %d", o.Trap, o.Left, r.Used)
		r.Outcome, r.Used = api.Outcome{Value: o.Value}, 0
	case o.Kind == api.Spent:
		out = fmt.Sprintf("spent, used %d", r.Used)
		r.Outcome, r.Used = api.Outcome{Value: o.Value, Left: o.Left}, 0
	}
	if !reflect.DeepEqual(r, api.Receipt{Digest: r.Digest}) {
		out += fmt.Sprint(" and more: ", r)
	}
	return out
}

// brief is an act as a text that is not too long.
func brief(a api.Act) string {
	return fmt.Sprintf("act of kind %d: %.30q, %.200q, %.30q, %.200s, %d", a.Kind, a.Name, a.Body, a.Entry, fmt.Sprint(a.Args), a.Gas)
}

// entriesTold are entries as a text.
func entriesTold(l []api.Entry) string {
	var out []string
	for _, x := range l {
		out = append(out, fmt.Sprintf("%q: %s", x.Key, value.Print(x.Value)))
	}
	return strings.Join(out, ", ")
}

// digestOf is what the document says that the digest of entries is.
func digestOf(t *testing.T, l []api.Entry) [32]byte {
	t.Helper()
	b, e := state.Encode(l)
	if e != api.OK {
		t.Fatalf("state.Encode: %d", e)
	}
	return sha256.Sum256(b)
}

// does has an act done, and holds its receipt and the entries behind it against what is wanted.
func does(t *testing.T, c *chain.Chain, a api.Act, want, entries string) {
	t.Helper()
	r := c.Do(a)
	if got := told(r); got != want {
		t.Errorf("P22.2: %s: %.300s, want %.300s", brief(a), got, want)
	}
	l := c.Entries()
	if got := entriesTold(l); got != entries {
		t.Errorf("P22.2: %s: the entries are %.300s, want %.300s", brief(a), got, entries)
	}
	if d := digestOf(t, l); r.Digest != d || c.Digest() != d {
		t.Errorf("P22.2, P22.4: %s: the digest is %x, by Digest %x, want %x", brief(a), r.Digest, c.Digest(), d)
	}
}

// from is a chain of entries, with modules of sources: their names and their bodies in turn.
func from(t *testing.T, l []api.Entry, sources ...string) *chain.Chain {
	t.Helper()
	c, e := chain.From(l)
	if e != api.OK || c == nil {
		t.Fatalf("P22.1: From: %d", e)
	}
	for i := 0; i < len(sources); i += 2 {
		if r := c.Do(source(sources[i], sources[i+1])); r.Code != api.OK {
			t.Fatalf("P22.2: the deployment of %s: %s", sources[i], told(r))
		}
	}
	return c
}

// encoded are the bytes of the module of asm's lines, parted by /.
func encoded(t *testing.T, lines string) string {
	t.Helper()
	m, n, e := asm.Parse(strings.ReplaceAll(lines, "/", "\n"))
	b, f := module.Encode(m)
	if e != api.OK || f != api.OK {
		t.Fatalf("%s: %d in line %d, %d", lines, e, n, f)
	}
	return string(b)
}

const plain = `export fn set(v) { save("k", v); } export fn bad() { save("k", 9); abort(1); } fn in() { }`

func TestExamples(t *testing.T) {
	c := chain.New()
	k := `"k": 5`
	does(t, c, source("m", plain), "ok", "")
	does(t, c, source("m", "fn f() { }"), "error 220 at 0", "")
	does(t, c, source("1m", "fn f() { }"), "error 220 at 0", "")
	does(t, c, source("n", "fn f() {"), "error 170 at 8", "")
	does(t, c, call("m", "set", 99, number(5)), "unit, left 68, used 31", k)
	does(t, c, call("m", "bad", 99), "trap 8, left 68, used 31", k)
	does(t, c, call("m", "bad", 5), "spent, used 5", k)
	does(t, c, call("m", "in", 99), "error 140 at 0", k)
	does(t, c, call("n", "set", 99, number(5)), "error 221 at 0", k)
	does(t, c, call("m", "set", -1, number(5)), "error 2 at 0", k)
	does(t, c, call("m", "set", 9), "trap 7, left 9, used 0", k)
	does(t, c, bytes("n", "SCM2"), "error 224 at 0", k)
	does(t, c, api.Act{Kind: 4}, "error 223 at 0", k)
}

// TestExamplesOfTheWhole: DOC.md's that a chain does.
func TestExamplesOfTheWhole(t *testing.T) {
	c := from(t, []api.Entry{{Key: "k", Value: number(1)}}, "m", `export fn h() { save("k", 2); abort(unit); }`,
		"f", "export fn f(a) { return a + 1; }", "g", `export fn g() { save("k", 1); return load("k"); }`)
	k := `"k": 1`
	does(t, c, call("m", "h", 100), "trap 8, left 69, used 31", k)
	does(t, c, call("f", "f", 100, number(41)), "42, left 93, used 7", k)
	does(t, c, call("f", "f", 7, number(41)), "42, left 0, used 7", k)
	does(t, c, call("f", "f", 6, number(41)), "spent, used 6", k)
	does(t, c, call("f", "f", 100, text("x")), "trap 3, left 93, used 7", k)
	does(t, c, call("f", "f", 100), "trap 7, left 100, used 0", k)
	does(t, chain.New(), bytes("m", encoded(t, ".func 0 0 2/add/ret")), "error 124 at 0", "")
	empty := from(t, nil, "g", `export fn g() { save("k", 1); return load("k"); }`)
	does(t, empty, call("g", "g", 100), "1, left 56, used 44", k)
	if c := chain.New(); c.Digest() != hash.Sum([]byte("SST1\x00")) {
		t.Error("the digest of a new chain")
	}
}

// bare holds of a chain that it has no modules, and just these entries.
func bare(t *testing.T, what string, c *chain.Chain, l []api.Entry) {
	t.Helper()
	if n := c.Modules(); len(n) != 0 {
		t.Errorf("P22.1: %s has the modules %v", what, n)
	}
	if got := c.Entries(); entriesTold(got) != entriesTold(l) {
		t.Errorf("P22.1: %s has the entries %.300s", what, entriesTold(got))
	}
	if c.Digest() != digestOf(t, l) {
		t.Errorf("P22.1: %s has another digest", what)
	}
}

// filled are so many entries of keys of three bytes, each with v.
func filled(count int, v api.Value) []api.Entry {
	var l []api.Entry
	for i := range count {
		l = append(l, api.Entry{Key: fmt.Sprintf("%03d", i), Value: v})
	}
	return l
}

func TestP221(t *testing.T) {
	c := chain.New()
	if c == nil || c == chain.New() {
		t.Fatal("P22.1: New is none, or the same chain twice")
	}
	bare(t, "New", c, nil)
	for what, l := range map[string][]api.Entry{
		"nil": nil, "empty": {}, "one": filled(1, unit), "128": filled(128, number(-1)), "the heaviest": filled(128, heavy(252)),
		"a deep one": {{Key: "\x00", Value: list(list(list(list(list(list(list(unit)))))))}, {Key: many("\xff", 32), Value: truth(1)}},
	} {
		c, e := chain.From(l)
		if c == nil || e != api.OK {
			t.Fatalf("P22.1: From of %s: %d", what, e)
		}
		bare(t, "From of "+what, c, l)
	}
	for what, l := range map[string][]api.Entry{
		"falling": {{Key: "b"}, {Key: "a"}}, "twice": {{Key: "a"}, {Key: "a"}}, "an empty key": {{}}, "a long key": {{Key: many("k", 33)}},
		"no value": {{Key: "a"}, {Key: "b", Value: truth(2)}}, "a heavy value": {{Key: "a", Value: heavy(2049)}}, "value, then key": {{Key: "a", Value: truth(2)}, {}},
		"129": filled(129, unit), "too heavy": append(filled(128, heavy(252))[:127], api.Entry{Key: "127", Value: heavy(253)}), "full, and falling": append(filled(200, unit), api.Entry{Key: "0"}),
	} {
		_, want := store.From(l)
		if c, e := chain.From(l); c != nil || e != want || want == api.OK {
			t.Errorf("P22.1: From of %s: %d, want %d", what, e, want)
		}
	}
}

// TestP222Kinds: an act of no kind is refused, whatever else it says.
func TestP222Kinds(t *testing.T) {
	c := from(t, filled(1, unit), "m", plain)
	for _, kind := range []int{0, 4, 5, -1, -3, math.MaxInt, math.MinInt, 257, 1 << 32} {
		for _, a := range []api.Act{source("n", plain), bytes("n", encoded(t, "")), call("m", "set", 99, unit), source("1", ""), call("x", "", -1), {}} {
			a.Kind = kind
			does(t, c, a, "error 223 at 0", `"000": unit`)
		}
	}
	if l := c.Modules(); !slices.Equal(l, []string{"m"}) {
		t.Errorf("P22.2: the modules are %v", l)
	}
}

// notNames are texts that are no names.
func notNames() []string {
	return []string{"", "1m", "9", "a-b", "a b", " a", "a ", "a.b", "é", "a\x00", "\x00", "\xff", "aé", many("m", 21), many("m", 100000), "_1é", "@", "[", "`", "{", "/", ":"}
}

func TestP222Names(t *testing.T) {
	right, good := plain, encoded(t, ".const 1/.func 0 0 1/const 0/ret/.export f 0")
	for _, name := range []string{"a", "z", "A", "Z", "_", "m1", "_9", "a_b", "fn", "true", "len", many("m", 20), "_" + many("9", 19)} {
		c := chain.New()
		other := name[:len(name)-1] + "x"
		for _, a := range []api.Act{source(name, right), bytes(other, good)} {
			does(t, c, a, "ok", "")
			for _, again := range []api.Act{source(a.Name, right), bytes(a.Name, good), source(a.Name, "fn"), bytes(a.Name, "S")} {
				does(t, c, again, "error 220 at 0", "")
			}
		}
		does(t, c, call(other, "f", 9), "1, left 7, used 2", "")
		does(t, c, call(name, "set", 99, unit), "unit, left 68, used 31", `"k": unit`)
	}
	c := chain.New()
	for _, name := range notNames() {
		for _, a := range []api.Act{source(name, right), bytes(name, good), source(name, "fn"), bytes(name, "S")} {
			does(t, c, a, "error 220 at 0", "")
		}
		does(t, c, call(name, "set", 99, unit), "error 221 at 0", "")
	}
	bare(t, "behind what was refused it", c, nil)
}

func TestP222Full(t *testing.T) {
	good := encoded(t, ".const 1/.func 0 0 1/const 0/ret/.export f 0")
	c := chain.New()
	for i := range 16 {
		name := fmt.Sprint("m", i)
		does(t, c, source(name, "fn f() {"), "error 170 at 8", "")
		does(t, c, bytes(name, good[:9]), "error 224 at 9", "")
		if i%2 == 0 {
			does(t, c, source(name, "export fn f() { return 1; }"), "ok", "")
		} else {
			does(t, c, bytes(name, good), "ok", "")
		}
	}
	for _, a := range []api.Act{source("n", plain), bytes("n", good), source("n", "fn f() {"), bytes("n", "SCM2")} {
		does(t, c, a, "error 222 at 0", "")
		a.Name = "m7"
		does(t, c, a, "error 220 at 0", "")
		a.Name = "7m"
		does(t, c, a, "error 220 at 0", "")
	}
	for i := range 16 {
		does(t, c, call(fmt.Sprint("m", i), "f", 9), "1, left 7, used 2", "")
	}
	does(t, c, call("n", "f", 9), "error 221 at 0", "")
	if l := c.Modules(); len(l) != 16 || l[0] != "m0" || l[1] != "m1" || l[2] != "m10" || l[15] != "m9" {
		t.Errorf("P22.4: the modules are %v", l)
	}
}

// TestP222Source: what compile.Source refuses is refused, with its place; the name stays free.
func TestP222Source(t *testing.T) {
	c := chain.New()
	for _, row := range []struct{ s, want string }{
		{many(" ", 8193), "error 160 at 0"},
		{"fn f() { # }", "error 161 at 9"},
		{"fn f() { 012; }", "error 162 at 9"},
		{`fn f() { "x; }`, "error 163 at 9"},
		{"fn abcdefghijklmnopqrstuvwxyz() { }", "error 164 at 3"},
		{"fn f() { 1 }", "error 170 at 11"},
		{"f", "error 170 at 0"},
		{"fn f() { " + many("(", 24) + "1" + many(")", 24) + "; }", "error 171 at 32"},
		{"fn f() { } fn f() { }", "error 191 at 11"},
		{"fn f() { 1; g(); }", "error 192 at 12"},
		{"fn f() { f(1); }", "error 193 at 9"},
		{"fn f() { let a; a; }", "error 194 at 16"},
		{"fn f() { if (1) { break; } }", "error 195 at 18"},
		{"fn f(a, b, c, d, e, g, h, i, j) { }", "error 196 at 0"},
		{"fn f() { } fn g() { [" + many("1, ", 40) + "1]; }", "error 215 at 20"},
		{encoded(t, ""), "error 161 at 4"},
	} {
		_, at, e := compile.Source(row.s)
		if got := fmt.Sprintf("error %d at %d", int(e), at); got != row.want {
			t.Fatalf("compile.Source of %.100s: %s", row.s, got)
		}
		does(t, c, source("m", row.s), row.want, "")
	}
	bare(t, "behind what was refused it", c, nil)
	does(t, c, source("m", ""), "ok", "")
	does(t, c, source("n", many(" ", 8192)), "ok", "")
	does(t, c, call("m", "f", 9), "error 140 at 0", "")
}

// TestP222Bytes: what module.Decode refuses, and what verify.Module finds at fault, is refused, with its place; the name stays free.
func TestP222Bytes(t *testing.T) {
	good := encoded(t, ".const 1/.func 0 0 1/const 0/ret/.export f 0")
	c := chain.New()
	for at := range len(good) {
		_, place, e := module.Decode([]byte(good[:at]))
		if e == api.OK {
			t.Fatalf("module.Decode of %d bytes", at)
		}
		does(t, c, bytes("m", good[:at]), fmt.Sprint("error 224 at ", place), "")
	}
	does(t, c, bytes("m", good+"\x00"), fmt.Sprint("error 224 at ", len(good)), "")
	does(t, c, bytes("m", "SCM1\x01\x01\x65"), "error 224 at 6", "")
	does(t, c, bytes("m", plain), "error 224 at 0", "")
	does(t, c, bytes("m", many(good, 4000)), "error 224 at 0", "")
	first := ".const 1/.const true/.func 0 0 1/const 0/ret/.func 0 0 2/const 0/pop/"
	for _, row := range []struct{ lines, want string }{
		{".bytes 00", "error 121 at 3"},
		{"const 2/ret", "error 122 at 3"},
		{"jump 1", "error 123 at 3"},
		{"const 0/add/ret", "error 124 at 5"},
		{"const 0/const 0/const 0/ret", "error 125 at 7"},
		{"const 1/unless 10/const 0/const 0/ret", "error 126 at 8"},
		{"const 0", "error 127 at 3"},
	} {
		does(t, c, bytes("m", encoded(t, first+row.lines)), row.want, "")
	}
	bare(t, "behind what was refused it", c, nil)
	does(t, c, bytes("m", good), "ok", "")
	does(t, c, call("m", "f", 2), "1, left 0, used 2", "")
	does(t, c, bytes("n", encoded(t, "")), "ok", "")
	does(t, c, call("n", "f", 2), "error 140 at 0", "")
}

// TestP222NotUsed: what an act's kind does not use is not looked at.
func TestP222NotUsed(t *testing.T) {
	wrong := []api.Value{{Kind: 9}}
	c := chain.New()
	a := source("m", plain)
	a.Entry, a.Args, a.Gas = "no export", wrong, -1
	does(t, c, a, "ok", "")
	a = bytes("n", encoded(t, ".const 1/.func 0 0 1/const 0/ret/.export f 0"))
	a.Entry, a.Args, a.Gas = "no export", wrong, math.MaxInt64
	does(t, c, a, "ok", "")
	a = call("m", "set", 99, unit)
	a.Body = "fn f() {"
	does(t, c, a, "unit, left 68, used 31", `"k": unit`)
	a.Body = many("x", 100000)
	does(t, c, a, "unit, left 68, used 31", `"k": unit`)
}

// TestP222Refused: why a call is refused, the first of all that there is.
func TestP222Refused(t *testing.T) {
	k := `"k": 1`
	c := from(t, []api.Entry{{Key: "k", Value: number(1)}}, "m", plain)
	wrong, two := api.Value{Kind: 9}, []api.Value{unit, unit}
	for _, gas := range []int64{-1, 1000001, math.MaxInt64, math.MinInt64} {
		does(t, c, call("x", "y", gas, wrong), "error 221 at 0", k)
		does(t, c, call("m", "y", gas, wrong), "error 2 at 0", k)
		does(t, c, call("m", "", gas), "error 2 at 0", k)
		does(t, c, call("m", "set", gas, two...), "error 2 at 0", k)
		does(t, c, call("m", "set", gas, unit), "error 2 at 0", k)
	}
	for _, name := range []string{"x", "M", "mm", "", "m ", many("m", 21)} {
		does(t, c, call(name, "set", 99, unit), "error 221 at 0", k)
	}
	for _, entry := range []string{"in", "no", "", "SET", "set ", many("x", 30)} {
		does(t, c, call("m", entry, 99, wrong), "error 140 at 0", k)
		does(t, c, call("m", entry, 99, unit), "error 140 at 0", k)
	}
	for _, v := range []api.Value{wrong, truth(2), heavy(2049), {N: 1}, list(truth(2))} {
		does(t, c, call("m", "set", 99, v), "error 141 at 0", k)
		does(t, c, call("m", "set", 99, unit, v), "error 141 at 0", k)
		does(t, c, call("m", "bad", 0, v), "error 141 at 0", k)
	}
	does(t, c, call("m", "set", 99, two...), "trap 7, left 99, used 0", k)
	does(t, c, call("m", "set", 0), "trap 7, left 0, used 0", k)
	does(t, c, call("m", "set", 1000000), "trap 7, left 1000000, used 0", k)
	does(t, c, call("m", "set", 0, unit), "spent, used 0", k)
	does(t, c, call("m", "set", 1000000, unit), "unit, left 999969, used 31", `"k": unit`)
}

// stages is a function's beginning that changes a store in many ways, one behind the other.
const stages = `export fn f(x) { save("b", 2); drop("a"); save("d", load("b")); save("a", "new"); drop("c"); drop("d"); save("e", [load("a")]); save("b", 3); save("e", x); `

// TestP222Traps: behind a call that traps, in each of the nine ways, the store is as it was, whatever had been done to it.
func TestP222Traps(t *testing.T) {
	l := []api.Entry{{Key: "a", Value: number(1)}, {Key: "b", Value: list(unit)}, {Key: "c"}}
	for trap, last := range map[int]string{
		api.TrapDivide: "1 / 0;", api.TrapIndex: "[][0];", api.TrapType: "-true;", api.TrapDepth: "f(x);", api.TrapKey: "{}.k;", api.TrapAbort: "abort(x);",
		api.TrapSize: `"` + many("x", 2040) + `" + "12345678";`, api.TrapStore: `save("", 1);`,
	} {
		c := from(t, l, "m", stages+last+" }")
		r := c.Do(call("m", "f", 100000, number(7)))
		if r.Outcome.Kind != api.Trapped || r.Outcome.Trap != trap || r.Outcome.Left+r.Used != 100000 || r.Used < 200 {
			t.Errorf("P22.2: trap %d: %s", trap, told(r))
		}
		does(t, c, call("m", "f", 100000, number(7)), told(r), entriesTold(l))
	}
	does(t, from(t, l, "m", stages+"}"), call("m", "f", 100000), "trap 7, left 100000, used 0", entriesTold(l))
}

// TestP222Gas: with too little gas, wherever it ends, the store is as it was; with enough all is done, and the rest is left.
func TestP222Gas(t *testing.T) {
	l := []api.Entry{{Key: "a", Value: number(1)}, {Key: "b", Value: list(unit)}, {Key: "c"}}
	s := stages + `return load("e"); }`
	need := from(t, l, "m", s).Do(call("m", "f", 1000000, number(7))).Used
	if need < 200 || need > 400 {
		t.Fatalf("P22.2: it used %d", need)
	}
	c := from(t, l, "m", s)
	for gas := range need {
		does(t, c, call("m", "f", gas, number(7)), fmt.Sprint("spent, used ", gas), entriesTold(l))
	}
	for _, more := range []int64{0, 1, 2, 100, 1000000 - need} {
		c := from(t, l, "m", s)
		does(t, c, call("m", "f", need+more, number(7)), fmt.Sprintf("7, left %d, used %d", more, need), `"a": "new", "b": 3, "e": 7`)
	}
	does(t, c, source("n", `export fn f() { while (true) { save("a", load("b")); } }`), "ok", entriesTold(l))
	does(t, c, call("n", "f", 1000000), "spent, used 1000000", entriesTold(l))
}

// TestP222Room: what a call that did not return has put makes no store full, and what it has dropped makes no room.
func TestP222Room(t *testing.T) {
	c := from(t, filled(127, unit), "m", `export fn put(k) { save(k, unit); } export fn two() { save("a", 1); save("b", 2); }
export fn lose() { drop("000"); drop("001"); abort(1); } export fn drop1() { drop("000"); }`)
	was := entriesTold(filled(127, unit))
	for range 3 {
		does(t, c, call("m", "two", 999), "trap 9, left 942, used 57", was)
		does(t, c, call("m", "lose", 999), "trap 8, left 965, used 34", was)
		does(t, c, call("m", "two", 999), "trap 9, left 942, used 57", was)
	}
	does(t, c, call("m", "put", 99, text("x")), "unit, left 68, used 31", was+`, "x": unit`)
	does(t, c, call("m", "put", 99, text("y")), "trap 9, left 71, used 28", was+`, "x": unit`)
	does(t, c, call("m", "drop1", 99), "unit, left 81, used 18", strings.TrimPrefix(was, `"000": unit, `)+`, "x": unit`)
	does(t, c, call("m", "put", 99, text("y")), "unit, left 68, used 31", strings.TrimPrefix(was, `"000": unit, `)+`, "x": unit, "y": unit`)
	light := from(t, append(filled(128, heavy(252))[:127], api.Entry{Key: "127", Value: heavy(250)}), "m", `export fn f(a, b) { save("127", a); drop("126"); save("127", b); }`)
	was = entriesTold(light.Entries())
	for range 3 {
		r := light.Do(call("m", "f", 9999, heavy(252), heavy(509)))
		if r.Outcome.Trap != api.TrapStore || entriesTold(light.Entries()) != was {
			t.Errorf("P22.2: a store of a weight of 32767: %s", told(r))
		}
	}
	if r := light.Do(call("m", "f", 9999, heavy(252), heavy(508))); r.Outcome.Kind != api.Returned || len(light.Entries()) != 127 {
		t.Errorf("P22.2: a store of a weight of 32768: %s", told(r))
	}
}

// TestP222OneStore: the modules of a chain work on one store, one call behind the other.
func TestP222OneStore(t *testing.T) {
	more := `export fn more(k) { if (kind(load(k)) == 0) { save(k, 0); } save(k, load(k) + 1); return load(k); }`
	c := from(t, nil, "a", more, "b", more, "c", `export fn all() { let l = []; let k = after(""); while (kind(k) == 3) { l = push(l, load(k)); k = after(k); } return l; }`)
	for i, row := range []struct{ name, key string }{{"a", "x"}, {"b", "x"}, {"a", "y"}, {"a", "x"}, {"b", "y"}, {"b", "w"}} {
		if r := c.Do(call(row.name, "more", 999, text(row.key))); r.Outcome.Value.N != []int64{1, 2, 1, 3, 2, 1}[i] {
			t.Errorf("P22.2: act %d: %s", i, told(r))
		}
	}
	r := c.Do(call("c", "all", 999))
	if got := value.Print(r.Outcome.Value); got != "[1, 3, 2]" {
		t.Errorf("P22.2: all that stands there: %s", got)
	}
}

// TestP223: All does what Do does, act by act, also behind those that are refused; what it tells is told by Do.
func TestP223(t *testing.T) {
	acts := []api.Act{
		call("m", "set", 99, number(1)), source("m", plain), call("m", "set", 99, number(2)), call("m", "bad", 99), {}, call("m", "set", 10, number(3)),
		bytes("n", ""), source("m", plain), source("n", "export fn get() { return load(\"k\"); }"), call("n", "get", 99), call("n", "get", -1), call("m", "set", 99, list(number(4))), call("n", "get", 99),
	}
	want := strings.Split("error 221 at 0|ok|unit, left 68, used 31|trap 8, left 68, used 31|error 223 at 0|spent, used 10|"+
		"error 224 at 0|error 220 at 0|ok|2, left 84, used 15|error 2 at 0|unit, left 66, used 33|[4], left 83, used 16", "|")
	for cut := range len(acts) + 1 {
		c, d := chain.New(), chain.New()
		l := append(c.All(acts[:cut]), c.All(acts[cut:])...)
		if len(l) != len(acts) {
			t.Fatalf("P22.3: %d receipts of %d acts", len(l), len(acts))
		}
		for i, r := range l {
			if told(r) != want[i] || !reflect.DeepEqual(r, d.Do(acts[i])) {
				t.Errorf("P22.3: act %d: %s, want %s", i, told(r), want[i])
			}
		}
		if entriesTold(c.Entries()) != `"k": [4]` || !slices.Equal(c.Modules(), []string{"m", "n"}) {
			t.Errorf("P22.3: %v, %s", c.Modules(), entriesTold(c.Entries()))
		}
		if len(c.All(nil)) != 0 || len(c.All([]api.Act{})) != 0 {
			t.Error("P22.3: receipts of no acts")
		}
	}
}

func TestP224(t *testing.T) {
	c := chain.New()
	code := encoded(t, ".const [1, \"a\"]/.const true/.func 1 2 3/const 0/ret/.func 0 0 0/jump 0/.export f 0/.export g 1")
	decoded, _, _ := module.Decode([]byte(code))
	compiled, _, _ := compile.Source(plain)
	other, _, _ := compile.Source(`export fn f() { return {b: 1, a: ["x", 2]}.a; }`)
	for _, a := range []api.Act{source("b", plain), bytes("_", code), source("a", `export fn f() { return {b: 1, a: ["x", 2]}.a; }`), bytes("B1", encoded(t, "")), source("ab", "x"), bytes("B", code), source("a1", plain)} {
		c.Do(a)
	}
	if l := c.Modules(); !slices.Equal(l, []string{"B", "B1", "_", "a", "a1", "b"}) {
		t.Errorf("P22.4: the modules are %q", l)
	}
	for name, want := range map[string]api.Module{"b": compiled, "a1": compiled, "_": decoded, "B": decoded, "a": other, "B1": {}} {
		if m, e := c.Module(name); e != api.OK || !reflect.DeepEqual(m, want) {
			t.Errorf("P22.4: Module(%q): %d, %v", name, e, m)
		}
	}
	for _, name := range append(notNames(), "ab", "A", "b1", "__") {
		if m, e := c.Module(name); e != api.ErrChainNone || !reflect.DeepEqual(m, api.Module{}) {
			t.Errorf("P22.4: Module(%.100q): %d, %v", name, e, m)
		}
	}
	before := c.Digest()
	c.Do(call("b", "set", 99, number(1)))
	if d := digestOf(t, []api.Entry{{Key: "k", Value: number(1)}}); c.Digest() != d || d == before {
		t.Errorf("P22.4: the digest is %x, want %x", c.Digest(), d)
	}
}

// TestP225: a nil chain, and one that neither New nor From made, do nothing.
func TestP225(t *testing.T) {
	for what, c := range map[string]*chain.Chain{"nil": nil, "zero": {}} {
		acts := []api.Act{source("m", plain), bytes("m", encoded(t, "")), call("m", "set", 99, unit), {}, {Kind: 9}}
		none := api.Receipt{Code: api.ErrNil}
		for _, a := range acts {
			if r := c.Do(a); !reflect.DeepEqual(r, none) {
				t.Errorf("P22.5: %s: Do answers %v", what, r)
			}
		}
		for count := range len(acts) + 1 {
			l := c.All(acts[:count])
			if len(l) != count || slices.ContainsFunc(l, func(r api.Receipt) bool { return !reflect.DeepEqual(r, none) }) {
				t.Errorf("P22.5: %s: All of %d answers %v", what, count, l)
			}
		}
		if len(c.Modules()) != 0 || len(c.Entries()) != 0 || c.Digest() != [32]byte{} {
			t.Errorf("P22.5: %s: %v, %v, %x", what, c.Modules(), c.Entries(), c.Digest())
		}
		for _, name := range []string{"m", "", "1"} {
			if m, e := c.Module(name); e != api.ErrNil || !reflect.DeepEqual(m, api.Module{}) {
				t.Errorf("P22.5: %s: Module answers %v, %d", what, m, e)
			}
		}
	}
}
