package eval_test

import (
	"fmt"
	"maps"
	"math"
	"reflect"
	"slices"
	"strings"
	"testing"

	"scruple/api"
	"scruple/eval"
	"scruple/hash"
	"scruple/parse"
	"scruple/print"
	"scruple/store"
	"scruple/value"
	"scruple/vm"
)

var unit = api.Value{}

func truth(is bool) api.Value {
	if is {
		return api.Value{Kind: api.Bool, N: 1}
	}
	return api.Value{Kind: api.Bool}
}

func number(n int64) api.Value { return api.Value{Kind: api.Int, N: n} }

func text(s string) api.Value { return api.Value{Kind: api.Bytes, S: s} }

// longText is Bytes of so many bytes: its weight is one more.
func longText(count int) api.Value { return text(strings.Repeat("x", count)) }

func list(l ...api.Value) api.Value { return api.Value{Kind: api.Array, L: l} }

// record is one of keys, parted by spaces, and their values.
func record(keys string, l ...api.Value) api.Value {
	return api.Value{Kind: api.Record, K: strings.Fields(keys), L: l}
}

// units is an array of so many units: its weight is one more.
func units(count int) api.Value { return list(make([]api.Value, count)...) }

// node is one of a kind, with a Text and Kids.
func node(kind int, text string, kids ...api.Node) api.Node {
	return api.Node{Kind: kind, Text: text, Kids: kids}
}

func named(text string) api.Node { return node(api.Name, text) }

func lit(v api.Value) api.Node { return api.Node{Kind: api.Lit, Val: v} }

func do(n api.Node) api.Node { return node(api.Do, "", n) }

func give(n api.Node) api.Node { return node(api.Return, "", n) }

func block(l ...api.Node) api.Node { return node(api.Block, "", l...) }

// program has one exported function f of these statements, and those of more.
func program(body []api.Node, more ...api.Node) api.Node {
	f := node(api.Fn, "f", block(body...))
	f.Flag = true
	return node(api.Program, "", append([]api.Node{f}, more...)...)
}

func many(s string, count int) string { return strings.Repeat(s, count) }

// tree is a source's.
func tree(t *testing.T, s string) api.Node {
	t.Helper()
	n, at, e := parse.Program(s)
	if e != api.OK {
		t.Fatalf("parse.Program of %.300s: %d at %d", s, e, at)
	}
	return n
}

// brief is a tree as a text that is not too long.
func brief(n api.Node) string {
	s, _ := print.Program(n)
	return fmt.Sprintf("%.3000s", s)
}

// told is an outcome.
func told(o api.Outcome) string {
	out := fmt.Sprint("kind", o.Kind)
	switch o.Kind {
	case api.Returned:
		out = value.Print(o.Value)
	case api.Trapped:
		out = fmt.Sprint("trap", o.Trap)
	case api.Spent:
		out = "spent"
	}
	if o.Kind != api.Returned && !reflect.DeepEqual(o.Value, unit) || o.Kind != api.Trapped && o.Trap != 0 {
		out += " and more"
	}
	return fmt.Sprint(out, " ", o.Left)
}

// runs runs f of a tree on a store, and holds its outcome against what is wanted.
func runs(t *testing.T, n api.Node, s *store.Store, limit int64, want string, args ...api.Value) {
	t.Helper()
	o, e := eval.Run(n, "f", args, s, limit)
	if got := told(o); e != api.OK || got != want {
		t.Errorf("P20.1: %.300s of %.200s with %d: %.300s, %d; want %.300s", brief(n), value.Print(list(args...)), limit, got, e, want)
	}
}

// ends is runs of a source's tree on an empty store; vm and the model are held against the same.
func ends(t *testing.T, s string, limit int64, want string, args ...api.Value) {
	t.Helper()
	n := tree(t, s)
	runs(t, n, store.New(), limit, want, args...)
	if o := newModel(n, nil).run("f", args, limit); told(o) != want {
		t.Errorf("model: %.300s with %d: %.300s; want %.300s", s, limit, told(o), want)
	}
	byMachine(t, n, args, nil, limit, want)
}

// byMachine holds vm's outcome against what is wanted, if the tree can be a module; it tells whether it can.
func byMachine(t *testing.T, n api.Node, args []api.Value, first map[string]api.Value, limit int64, want string) bool {
	t.Helper()
	m, fits := module(n)
	if !fits {
		return false
	}
	i, fault := vm.Load(m)
	if fault.Code != api.OK {
		return false
	}
	if o, e := i.Run("f", args, filled(t, first), limit); e != api.OK || told(o) != want {
		t.Errorf("vm: %.300s with %d: %.300s, %d; want %.300s", brief(n), limit, told(o), e, want)
	}
	return true
}

// filled is a store of entries.
func filled(t *testing.T, first map[string]api.Value) *store.Store {
	t.Helper()
	s, e := store.From(entriesOf(first))
	if e != api.OK {
		t.Fatalf("store.From: %d", e)
	}
	return s
}

// entriesOf are a map's, as a store tells them.
func entriesOf(m map[string]api.Value) []api.Entry {
	var out []api.Entry
	for _, k := range slices.Sorted(maps.Keys(m)) {
		out = append(out, api.Entry{Key: k, Value: m[k]})
	}
	return out
}

func sameEntries(a, b []api.Entry) bool {
	return slices.EqualFunc(a, b, func(x, y api.Entry) bool { return x.Key == y.Key && same(x.Value, y.Value) })
}

// has holds a store's entries, each as key and text, against what is wanted.
func has(t *testing.T, s *store.Store, want string) {
	t.Helper()
	var out []string
	for _, x := range s.Entries() {
		out = append(out, x.Key+" "+value.Print(x.Value))
	}
	if got := strings.Join(out, ", "); got != want {
		t.Errorf("P20.2: the store has %s; want %s", got, want)
	}
}

func TestExamples(t *testing.T) {
	ends(t, `export fn f() { return 2 + 3; }`, 7, "5 0")
	ends(t, `export fn f() { return 2 + 3; }`, 6, "spent 0")
	if1 := `export fn f(a) { if (a) { return 1; } }`
	ends(t, if1, 9, "1 4", truth(true))
	ends(t, if1, 9, "unit 4", truth(false))
	ends(t, if1, 9, "trap3 6", number(1))
	and := `export fn f(a) { return a && g(); } fn g() { return 1; }`
	ends(t, and, 99, "trap3 85", truth(true))
	ends(t, and, 99, "false 94", truth(false))
	ends(t, `export fn f() { let i = 0; while (i < 2) { i = i + 1; } return i; }`, 99, "2 55")
	ends(t, `export fn f() { return f(); }`, 1000, "trap4 744")
	ends(t, `export fn f() { save("k", 1); }`, 99, "unit 68")
	s := store.New()
	runs(t, tree(t, `export fn f() { save("k", 1); }`), s, 99, "unit 68")
	has(t, s, "k 1")
	refuses(t, `fn f() { }`, "f", api.ErrEvalEntry)
	ends(t, `export fn f(a) { }`, 99, "trap7 99")
	refuses(t, `export fn f() { x; }`, "f", api.ErrEvalForm)
}

// refuses holds the error of an entry of a source without arguments against what is wanted.
func refuses(t *testing.T, s, entry string, want api.Errno) {
	t.Helper()
	o, e := eval.Run(tree(t, s), entry, nil, store.New(), 99)
	if e != want || !reflect.DeepEqual(o, api.Outcome{}) {
		t.Errorf("P20.1: %s of %s: %s, %d; want %d", entry, s, told(o), e, want)
	}
}

func TestExamplesOfTheWhole(t *testing.T) {
	f := `export fn f(a) { return a + 1; }`
	ends(t, f, 100, "42 93", number(41))
	ends(t, f, 7, "42 0", number(41))
	ends(t, f, 6, "spent 0", number(41))
	ends(t, f, 100, "trap3 93", text("x"))
	ends(t, f, 100, "trap7 100")
	s := store.New()
	runs(t, tree(t, `export fn f() { save("k", 1); return load("k"); }`), s, 100, "1 56")
	has(t, s, "k 1")
	runs(t, tree(t, `export fn f() { save("k", 2); abort(unit); }`), s, 100, "trap8 69")
	has(t, s, "k 2")
	ends(t, `export fn f(){return(1+2)*3;}`, 100, "9 89")
}

// TestP201Errors: the first that applies is told, and nothing is done.
func TestP201Errors(t *testing.T) {
	good := tree(t, `export fn f(a) { save("k", a); } fn g() { }`)
	bad := tree(t, `export fn f(a) { save("k", a); } fn g() { x; }`)
	for bits := range 64 {
		n, s, limit, entry, args := good, filled(t, map[string]api.Value{"x": unit}), int64(100), "f", []api.Value{number(1)}
		kept, want, outcome := s, api.OK, "unit 69"
		if bits&32 != 0 {
			args, outcome = append(args, unit), "trap7 100"
		}
		if bits&16 != 0 {
			args[len(args)-1] = api.Value{Kind: api.Bool, N: 2}
			want = api.ErrEvalArgs
		}
		if bits&8 != 0 {
			entry, want = "g", api.ErrEvalEntry
		}
		if bits&4 != 0 {
			n, want = bad, api.ErrEvalForm
		}
		if bits&2 != 0 {
			limit, want = -1, api.ErrArg
		}
		if bits&1 != 0 {
			s, want = nil, api.ErrNil
		}
		o, e := eval.Run(n, entry, args, s, limit)
		if e != want || e == api.OK && told(o) != outcome || e != api.OK && !reflect.DeepEqual(o, api.Outcome{}) {
			t.Errorf("P20.1: with the faults %06b: %s, %d; want %d", bits, told(o), e, want)
		}
		if done := kept.Len() == 2; done != (bits == 0) {
			t.Errorf("P20.1: with the faults %06b something was done: %t", bits, done)
		}
	}
}

func TestP201Limits(t *testing.T) {
	n := tree(t, `export fn f(a) { return a; }`)
	for limit, want := range map[int64]api.Errno{0: api.OK, 1: api.OK, 999999: api.OK, 1000000: api.OK, 1000001: api.ErrArg,
		-1: api.ErrArg, math.MinInt64: api.ErrArg, math.MaxInt64: api.ErrArg, 1 << 32: api.ErrArg, 1<<32 + 5: api.ErrArg} {
		o, e := eval.Run(n, "f", []api.Value{unit}, store.New(), limit)
		if e != want || e != api.OK && !reflect.DeepEqual(o, api.Outcome{}) {
			t.Errorf("P20.1: with %d: %s, %d; want %d", limit, told(o), e, want)
		}
	}
	runs(t, n, store.New(), 1000000, "unit 999998", unit)
	runs(t, n, store.New(), 0, "spent 0", unit)
	runs(t, n, store.New(), 0, "trap7 0")
	runs(t, n, store.New(), 1000000, "trap7 1000000")
}

// TestP201Form: all that check refuses is no tree to be run, wherever the fault stands.
func TestP201Form(t *testing.T) {
	for _, s := range []string{
		`export fn f() { } fn f() { }`, `export fn f() { } fn len() { }`, `export fn f() { x; }`, `export fn f() { } fn g() { x = 1; }`, `export fn f() { g(); }`,
		`export fn f() { f(1); }`, `export fn f() { let a; a; }`, `export fn f() { break; }`, `export fn f() { return; continue; }`, `export fn f() { let a; let a; }`,
		`export fn f(a, a) { }`, `export fn f() { } fn g(a, b, c, d, e, h, i, j, k) { }`, `export fn f() { return {a: 1, a: 2}; }`,
	} {
		refuses(t, s, "f", api.ErrEvalForm)
		refuses(t, s, "none", api.ErrEvalForm)
	}
	f := program(nil).Kids[0]
	endless := []api.Node{node(api.While, "", lit(truth(true)), block())}
	endless[0].Kids[1].Kids = endless
	values := []api.Value{list()}
	values[0].L = values
	for i, n := range []api.Node{
		{}, {Kind: -1}, {Kind: math.MaxInt}, f, block(), named("f"), node(api.Program, "x", f), node(api.Program, "", f, block()),
		program([]api.Node{named("a")}), program([]api.Node{do(lit(number(-1)))}), program([]api.Node{do(lit(list()))}), program([]api.Node{do(lit(longText(2048)))}),
		program([]api.Node{give(node(api.Binary, "&", lit(unit), lit(unit)))}), program([]api.Node{node(api.If, "", lit(truth(true)))}),
		program([]api.Node{node(api.While, "", lit(truth(true)), endless[0])}), program([]api.Node{do(lit(values[0]))}),
		program(make([]api.Node, 30000)), node(api.Program, "", node(api.Fn, "f")),
	} {
		if o, e := eval.Run(n, "f", nil, store.New(), 99); e != api.ErrEvalForm || !reflect.DeepEqual(o, api.Outcome{}) {
			t.Errorf("P20.1: the wrong tree %d: %s, %d", i, told(o), e)
		}
	}
}

// TestP201Entry: an exported Fn is found by its whole name alone, and each name is its own Fn's.
func TestP201Entry(t *testing.T) {
	s := `export fn A() { return 2; } export fn a() { return 1; } fn b() { return 3; } export fn a_long_name_of_20_xx() { return 0; } export fn aa() { return 4; }`
	for name, want := range map[string]string{"A": "2 8", "a": "1 8", "a_long_name_of_20_xx": "0 8", "aa": "4 8"} {
		if o, e := eval.Run(tree(t, s), name, nil, store.New(), 10); e != api.OK || told(o) != want {
			t.Errorf("P20.1: %s: %s, %d; want %s", name, told(o), e, want)
		}
	}
	for _, name := range []string{"", "b", "B", "aaa", "a ", "a\x00", "a_long_name_of_20_x", "a_long_name_of_20_xxx", "len", "save", "export", "\xff", many("a", 100000)} {
		refuses(t, s, name, api.ErrEvalEntry)
	}
	refuses(t, "", "f", api.ErrEvalEntry)
	refuses(t, "", "", api.ErrEvalEntry)
}

func deep(count int) api.Value {
	v := list()
	for range count - 1 {
		v = list(v)
	}
	return v
}

// wrongs are values that are not right.
func wrongs() []api.Value {
	endless := units(2)
	endless.L[0], endless.L[1] = endless, endless
	return []api.Value{{Kind: 6}, {Kind: -1}, {Kind: math.MaxInt}, {N: 1}, {S: "a"}, {Kind: api.Bool, N: 2}, {Kind: api.Bool, N: -1},
		{Kind: api.Int, S: "a"}, {Kind: api.Bytes, N: 1}, {Kind: api.Array, K: []string{"a"}}, {Kind: api.Record, L: units(1).L},
		{Kind: api.Int, L: units(1).L}, record("b a", unit, unit), record("a a", unit, unit), record(many("k", 33), unit),
		longText(2048), units(2048), deep(9), endless, list(api.Value{Kind: api.Bool, N: 2})}
}

// TestP201Args: each wrong value is found, wherever it stands, and however many there are.
func TestP201Args(t *testing.T) {
	n := tree(t, `export fn f(a) { save("k", a); }`)
	for i, wrong := range wrongs() {
		for count := range 12 {
			for at := range count {
				args := make([]api.Value, count)
				args[at] = wrong
				s := store.New()
				if o, e := eval.Run(n, "f", args, s, 100); e != api.ErrEvalArgs || !reflect.DeepEqual(o, api.Outcome{}) || s.Len() != 0 {
					t.Errorf("P20.1: the wrong value %d at %d of %d: %s, %d", i, at, count, told(o), e)
				}
			}
		}
	}
	for i, v := range []api.Value{longText(2047), units(2047), deep(8), record(many("k", 32), unit), number(math.MinInt64)} {
		s := store.New()
		if o, e := eval.Run(n, "f", []api.Value{v}, s, 10000); e != api.OK || o.Kind != api.Returned || s.Len() != 1 {
			t.Errorf("P20.1: the right value %d: %s, %d", i, told(o), e)
		}
	}
}

// TestP201Arity: another number of arguments traps with all gas left, and nothing is done.
func TestP201Arity(t *testing.T) {
	for params := range 9 {
		names := strings.Join(strings.Fields("a b c d e g h i")[:params], ", ")
		n := tree(t, fmt.Sprintf(`export fn f(%s) { return save("k", "k"); }`, names))
		for count := range 12 {
			for _, limit := range []int64{0, 1, 500, 1000000} {
				s := store.New()
				want, length := fmt.Sprint("trap7 ", limit), 0
				if count == params && limit >= 31 {
					want, length = fmt.Sprint("unit ", limit-31), 1
				} else if count == params {
					want = "spent 0"
				}
				runs(t, n, s, limit, want, make([]api.Value, count)...)
				if s.Len() != length {
					t.Errorf("P20.1: %d arguments of %d with %d: %d entries", count, params, limit, s.Len())
				}
			}
		}
	}
	runs(t, tree(t, `export fn f(a) { }`), store.New(), 50, "trap7 50", make([]api.Value, 100000)...)
	// Each argument is its own parameter's.
	ends(t, `export fn f(a, b, c) { return [c, a, b]; }`, 50, "[3, 1, 2] 41", number(1), number(2), number(3))
	ends(t, `export fn f(a, b, c) { return g(c, b, a, 4); } fn g(c, a, d, b) { return [a, b, c, d]; }`, 50, "[2, 4, 3, 1] 26", number(1), number(2), number(3))
}

// TestP201Forms: what each form costs: the same, and what it returns, with each limit that is enough; spent with each
// that is not.
func TestP201Forms(t *testing.T) {
	yes, no := truth(true), truth(false)
	for _, row := range []struct {
		source string
		cost   int64
		want   string
		args   []api.Value
	}{
		{"export fn f() { }", 2, "unit", nil},
		{"export fn f() { return; }", 2, "unit", nil},
		{"export fn f() { return 7; }", 2, "7", nil},
		{"export fn f(a) { return a; }", 2, "7", []api.Value{number(7)}},
		{"export fn f() { return; 1 / 0; }", 2, "unit", nil},
		{"export fn f() { let a; let b; let c; }", 2, "unit", nil},
		{"export fn f() { let a = 5; }", 4, "unit", nil},
		{"export fn f() { let a = 5; return a; }", 4, "5", nil},
		{"export fn f() { let a; a = 5; return a; }", 4, "5", nil},
		{"export fn f(a) { a = 5; a = a; return a; }", 6, "5", []api.Value{no}},
		{"export fn f() { 5; }", 4, "unit", nil},
		{`export fn f() { return "a\x00b"; }`, 2, `"a\x00b"`, nil},
		{"export fn f() { return [true, false, unit, []]; }", 1 + 1 + 1 + 2 + 2 + 4 + 1, "[true, false, unit, []]", nil},
		{"export fn f() { return {}; }", 3, "{}", nil},
		{`export fn f() { return {b: 1, a: "xy", "": {}}; }`, 1 + 1 + 2 + 2 + 5 + 1, `{"": {}, "a": "xy", "b": 1}`, nil},
		{`export fn f(a) { return a.k; }`, 4, `5`, []api.Value{record("a k", unit, number(5))}},
		{`export fn f(a) { return a[1]; }`, 5, `5`, []api.Value{list(unit, number(5))}},
		{`export fn f(a) { return a[1][0].k[0]; }`, 1 + 3 + 3 + 2 + 3 + 1, `97`, []api.Value{list(unit, list(record("k", text("a"))))}},
		{`export fn f(a) { return -a; }`, 3, `-5`, []api.Value{number(5)}},
		{`export fn f(a) { return !a; }`, 3, `false`, []api.Value{yes}},
		{`export fn f(a) { return ---a; }`, 5, `-5`, []api.Value{number(5)}},
		{`export fn f(a) { return !!!a; }`, 5, `false`, []api.Value{yes}},
		{`export fn f(a, b) { return a - b * 2; }`, 1 + 1 + 1 + 3 + 2 + 1, `-1`, []api.Value{number(5), number(3)}},
		{`export fn f(a, b) { return (a - b) * 2; }`, 1 + 1 + 2 + 1 + 3 + 1, `4`, []api.Value{number(5), number(3)}},
		{`export fn f(a, b) { return a - b - 1; }`, 1 + 1 + 2 + 1 + 2 + 1, `1`, []api.Value{number(5), number(3)}},
		{`export fn f(a, b) { return a - (b - 1); }`, 1 + 1 + 1 + 2 + 2 + 1, `3`, []api.Value{number(5), number(3)}},
		{"export fn f() { return g(); } fn g() { }", 8 + 2 + 1, "unit", nil},
		{"export fn f(a) { return g(a, 2); } fn g(b, c) { return b - c; }", 2 + 8 + 4 + 1 + 1, "3", []api.Value{number(5)}},
		{"export fn f(a) { if (a) { } }", 5, "unit", []api.Value{yes}},
		{"export fn f(a) { if (a) { } }", 5, "unit", []api.Value{no}},
		{"export fn f(a) { if (a) { } else { } }", 6, "unit", []api.Value{yes}},
		{"export fn f(a) { if (a) { } else { } }", 5, "unit", []api.Value{no}},
		{"export fn f(a) { if (a) { return 1; } else { return 2; } }", 5, "1", []api.Value{yes}},
		{"export fn f(a) { if (a) { return 1; } else { return 2; } }", 5, "2", []api.Value{no}},
		{"export fn f(a, b) { if (a) { 1; } else if (b) { 1; 1; } }", 3 + 2 + 1 + 2, "unit", []api.Value{yes, yes}},
		{"export fn f(a, b) { if (a) { 1; } else if (b) { 1; 1; } }", 3 + 3 + 4 + 2, "unit", []api.Value{no, yes}},
		{"export fn f(a, b) { if (a) { 1; } else if (b) { 1; 1; } }", 3 + 3 + 2, "unit", []api.Value{no, no}},
		{"export fn f(a, b) { if (a) { 1; } else if (b) { 1; 1; } else { 1; 1; 1; } }", 3 + 2 + 1 + 2, "unit", []api.Value{yes, yes}},
		{"export fn f(a, b) { if (a) { 1; } else if (b) { 1; 1; } else { 1; 1; 1; } }", 3 + 3 + 4 + 1 + 2, "unit", []api.Value{no, yes}},
		{"export fn f(a, b) { if (a) { 1; } else if (b) { 1; 1; } else { 1; 1; 1; } }", 3 + 3 + 6 + 2, "unit", []api.Value{no, no}},
		{"export fn f(a, b) { if (a) { } else { if (b) { } else { } } }", 3 + 3 + 1 + 2, "unit", []api.Value{no, yes}},
		{"export fn f() { while (false) { 1; } }", 3 + 2, "unit", nil},
		{"export fn f() { while (true) { break; } }", 3 + 1 + 2, "unit", nil},
		{"export fn f() { while (true) { return 1; } }", 3 + 2, "1", nil},
		{"export fn f(a) { while (a) { a = false; } }", 3 + 2 + 1 + 3 + 2, "unit", []api.Value{yes}},
		{"export fn f(a) { while (a) { a = false; continue; } }", 3 + 2 + 1 + 3 + 2, "unit", []api.Value{yes}},
		{"export fn f(a) { while (a) { a = false; if (true) { continue; } return 1; } }", 3 + 2 + 3 + 1 + 3 + 2, "unit", []api.Value{yes}},
		{"export fn f(a) { while (a) { a = false; if (true) { continue; } else { } return 1; } }", 3 + 2 + 3 + 1 + 3 + 2, "unit", []api.Value{yes}},
		{"export fn f(a) { while (true) { if (a) { break; } else { return 1; } } return 2; }", 3 + 3 + 1 + 2, "2", []api.Value{yes}},
		{"export fn f(a) { while (true) { while (true) { break; } return 5; } }", 3 + 3 + 1 + 2, "5", []api.Value{yes}},
		{"export fn f(a) { while (a) { a = false; while (true) { return 5; } } }", 3 + 2 + 3 + 2, "5", []api.Value{yes}},
		{"export fn f() { let i = 0; while (i < 2) { i = i + 1; let j = 0; while (true) { j = j + 1; if (j == i) { break; } } } return i; }",
			2 + 3*(1+1+4+2) + 2*(7+2+1) + (3 + 7 + 6 + 2 + 1) + (3 + 7 + 6 + 2 + 1 + 3 + 7 + 6 + 2 + 1) + 2 + 1 - 1, "2", nil},
		{"export fn f(a) { return a && true; }", 1 + 2 + 1 + 1 + 1 + 1, "true", []api.Value{yes}},
		{"export fn f(a) { return a && false; }", 1 + 2 + 1 + 1 + 1 + 1, "false", []api.Value{yes}},
		{"export fn f(a) { return a && 1 / 0; }", 1 + 2 + 1 + 1, "false", []api.Value{no}},
		{"export fn f(a) { return a || 1 / 0; }", 1 + 2 + 1 + 1 + 1, "true", []api.Value{yes}},
		{"export fn f(a) { return a || true; }", 1 + 2 + 1 + 1 + 1, "true", []api.Value{no}},
		{"export fn f(a) { return a || false; }", 1 + 2 + 1 + 1 + 1, "false", []api.Value{no}},
		{"export fn f(a, b) { return a && b || b && a; }", 1 + 2 + 1 + 1 + 1 + 2 + 1 + 1 + 1, "true", []api.Value{yes, yes}},
		{"export fn f(a, b) { return a && b || b && a; }", 1 + 2 + 1 + 2 + 1 + 2 + 1 + 1 + 1, "false", []api.Value{no, no}},
		{"export fn f(a, b) { return a && (b || !b); }", 1 + 2 + 1 + 2 + 1 + 1 + 1 + 1 + 1 + 1, "true", []api.Value{yes, no}},
	} {
		ends(t, row.source, 1000, fmt.Sprint(row.want, " ", 1000-row.cost), row.args...)
		for limit := range row.cost {
			ends(t, row.source, limit, "spent 0", row.args...)
		}
		ends(t, row.source, row.cost, row.want+" 0", row.args...)
	}
}

// TestP201Operations: what each operation gives by its form, and what it costs.
func TestP201Operations(t *testing.T) {
	abc, pair, rec := text("abc"), list(number(7), text("xy")), record("a b", number(1), text("z"))
	sum := hash.Sum([]byte{0})
	for _, row := range []struct {
		form string
		cost int64
		want string
		args []api.Value
	}{
		{"a + b", 4, "5", []api.Value{number(2), number(3)}},
		{"a + b", 10, `"abcabc"`, []api.Value{abc, abc}},
		{"a + b", 12, `[7, "xy", 7, "xy"]`, []api.Value{pair, pair}},
		{"a + b", 7, "trap3", []api.Value{abc, number(1)}},
		{"a + b", 2052, "trap5", []api.Value{longText(2047), text("x")}},
		{"a - b", 2, "-1", []api.Value{number(2), number(3)}},
		{"a - b", 2, "trap3", []api.Value{abc, abc}},
		{"a * b", 3, "6", []api.Value{number(2), number(3)}},
		{"a / b", 3, "-3", []api.Value{number(-7), number(2)}},
		{"a / b", 3, "trap1", []api.Value{number(-7), number(0)}},
		{"a % b", 3, "-1", []api.Value{number(-7), number(2)}},
		{"a % b", 3, "trap1", []api.Value{number(-7), number(0)}},
		{"-a", 1, "-2", []api.Value{number(2)}},
		{"-a", 1, "trap3", []api.Value{truth(true)}},
		{"!a", 1, "false", []api.Value{truth(true)}},
		{"!a", 1, "trap3", []api.Value{number(1)}},
		{"a == b", 7, "false", []api.Value{abc, unit}},
		{"a == b", 10, "true", []api.Value{abc, abc}},
		{"a != b", 7, "true", []api.Value{abc, unit}},
		{"a != b", 10, "false", []api.Value{abc, abc}},
		{"a < b", 4, "true", []api.Value{number(2), number(3)}},
		{"a < b", 4, "false", []api.Value{number(3), number(3)}},
		{"a <= b", 4, "true", []api.Value{number(3), number(3)}},
		{"a <= b", 4, "false", []api.Value{number(4), number(3)}},
		{"a > b", 4, "false", []api.Value{number(3), number(3)}},
		{"a > b", 4, "true", []api.Value{number(4), number(3)}},
		{"a >= b", 4, "false", []api.Value{number(2), number(3)}},
		{"a >= b", 4, "true", []api.Value{number(3), number(3)}},
		{"a < b", 7, "trap3", []api.Value{number(2), abc}},
		{"[a]", 6, `["abc"]`, []api.Value{abc}},
		{"[a, b, a]", 2 + 4 + 5 + 4, `["abc", [7, "xy"], "abc"]`, nil},
		{"[a]", 2050, "trap5", []api.Value{longText(2047)}},
		{"[a]", 10, "trap5", []api.Value{deep(8)}},
		{"{k: a}", 6, `{"k": "abc"}`, []api.Value{abc}},
		{"{z: a, y: b}", 2 + 4 + 5, `{"y": [7, "xy"], "z": "abc"}`, nil},
		{"{k: a}", 2048, "trap5", []api.Value{longText(2045)}},
		{"a[b]", 2, "98", []api.Value{abc, number(1)}},
		{"a[b]", 2, `"xy"`, []api.Value{pair, number(1)}},
		{"a[b]", 2, "trap2", []api.Value{pair, number(2)}},
		{"a[b]", 2, "trap2", []api.Value{pair, number(-1)}},
		{"a[b]", 2, "trap3", []api.Value{rec, text("a")}},
		{"a.b", 2, `"z"`, []api.Value{rec}},
		{"a.c", 2, "trap6", []api.Value{rec}},
		{"a.b", 2, "trap3", []api.Value{pair}},
		{"len(a)", 1, "3", []api.Value{abc}},
		{"len(a)", 1, "2", []api.Value{pair}},
		{"len(a)", 1, "trap3", []api.Value{unit}},
		{"push(a, b)", 11, `[7, "xy", "abc"]`, []api.Value{pair, abc}},
		{"push(a, b)", 2 + 8, "trap3", []api.Value{abc, abc}},
		{"change(a, 1, b)", 2 + 5 + 1 + 4, `[7, "abc"]`, []api.Value{pair, abc}},
		{"change(a, 2, b)", 2 + 5 + 1 + 4, "trap2", []api.Value{pair, abc}},
		{"slice(a, 1, b)", 2 + 4 + 1 + 1, `"bc"`, []api.Value{abc, number(3)}},
		{"slice(a, 1, b)", 2 + 4 + 1 + 1, "trap2", []api.Value{abc, number(0)}},
		{`with(a, "c", b)`, 2 + 8 + 2 + 1, `{"a": 1, "b": "z", "c": 5}`, []api.Value{rec, number(5)}},
		{"with(a, b, 1)", 2 + 8 + 34 + 1, "trap6", []api.Value{rec, longText(33)}},
		{"without(a, b)", 2 + 8 + 2, `{"b": "z"}`, []api.Value{rec, text("a")}},
		{"without(a, b)", 2 + 8 + 2, "trap6", []api.Value{rec, text("c")}},
		{"keys(a)", 2 + 8, `["a", "b"]`, []api.Value{rec}},
		{"has(a, b)", 2, "true", []api.Value{rec, text("a")}},
		{"has(a, b)", 2, "false", []api.Value{rec, text("c")}},
		{"kind(a)", 1, "5", []api.Value{rec}},
		{"digest(a)", 21, value.Print(text(string(sum[:]))), []api.Value{unit}},
		{"abort(a)", 1, "trap8", []api.Value{rec}},
	} {
		args := row.args
		if args == nil {
			args = []api.Value{abc, pair}
		}
		if len(args) == 1 {
			args = append(slices.Clone(args), unit)
		}
		var reads int64 // consts and gets ahead
		for _, r := range row.form {
			if strings.ContainsRune("ab123", r) {
				reads++
			}
		}
		_, inside, isCall := strings.Cut(row.form, "(")
		if isCall {
			reads = int64(strings.Count(inside, ",") + 1)
		} else if strings.Contains(row.form, ".") {
			reads = 1
		}
		cost := row.cost + reads
		source := "export fn f(a, b) { return " + row.form + "; }"
		limit := cost + 10
		if strings.HasPrefix(row.want, "trap") {
			ends(t, source, limit, row.want+" 10", args...)
			ends(t, source, cost, row.want+" 0", args...)
		} else {
			ends(t, source, limit, row.want+" 9", args...)
			ends(t, source, cost, "spent 0", args...)
		}
		ends(t, source, cost-1, "spent 0", args...)
	}
}

// TestP201Truths: what is no Bool is none, wherever one is asked for.
func TestP201Truths(t *testing.T) {
	for _, v := range []api.Value{unit, number(0), number(1), text(""), text("true"), list(), list(truth(true)), record("")} {
		for form, left := range map[string]int64{
			"if (a) { }":             97,
			"if (a) { } else { }":    97,
			"while (a) { }":          97,
			"return a && true;":      97,
			"return a || true;":      97,
			"return true && a;":      95,
			"return false || a;":     95,
			"if (true && a) { }":     95,
			"while (false || a) { }": 95,
		} {
			ends(t, "export fn f(a) { "+form+" }", 100, fmt.Sprint("trap3 ", left), v)
		}
	}
	ends(t, "export fn f(a) { return false && a; }", 100, "false 95", number(1))
	ends(t, "export fn f(a) { return true || a; }", 100, "true 94", number(1))
}
