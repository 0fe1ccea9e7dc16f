package step_test

import (
	"bytes"
	"fmt"
	"math"
	"math/rand"
	"reflect"
	"slices"
	"strings"
	"testing"
	"unsafe"

	"scruple/api"
	"scruple/asm"
	"scruple/hash"
	"scruple/module"
	"scruple/step"
	"scruple/store"
	"scruple/value"
	"scruple/verify"
	"scruple/vm"
	"scruple/wire"
)

var unit = api.Value{}

func truth(is bool) api.Value {
	if is {
		return api.Value{Kind: api.Bool, N: 1}
	}
	return api.Value{Kind: api.Bool}
}

func number(n int64) api.Value { return api.Value{Kind: api.Int, N: n} }

func text(s string) api.Value { return api.Value{Kind: api.Bytes, S: s} }

// longText is Bytes of so many bytes: its weight is one more.
func longText(count int) api.Value { return text(strings.Repeat("x", count)) }

func list(l ...api.Value) api.Value { return api.Value{Kind: api.Array, L: l} }

// texts is an array of words.
func texts(words ...string) api.Value {
	out := list()
	for _, w := range words {
		out.L = append(out.L, text(w))
	}
	return out
}

// record is one of keys, parted by spaces, and their values.
func record(keys string, l ...api.Value) api.Value {
	return api.Value{Kind: api.Record, K: strings.Fields(keys), L: l}
}

// units is an array of so many units: its weight is one more.
func units(count int) api.Value { return list(make([]api.Value, count)...) }

func deep(count int) api.Value {
	v := list()
	for range count - 1 {
		v = list(v)
	}
	return v
}

func endless() api.Value {
	v := units(2)
	v.L[0], v.L[1] = v, v
	return v
}

// wrongs are values that are not right.
func wrongs() []api.Value {
	return []api.Value{{Kind: 6}, {Kind: -1}, {Kind: math.MaxInt}, {N: 1}, {S: "a"}, {Kind: api.Bool, N: 2}, {Kind: api.Bool, N: -1},
		{Kind: api.Int, S: "a"}, {Kind: api.Bytes, N: 1}, {Kind: api.Array, K: []string{"a"}}, {Kind: api.Record, L: units(1).L},
		{Kind: api.Int, L: units(1).L}, record("b a", unit, unit), record("a a", unit, unit), record(strings.Repeat("k", 33), unit),
		longText(2048), units(2048), deep(9), endless(), list(api.Value{Kind: api.Bool, N: 2})}
}

// made is the module of asm's lines, parted by /.
func made(t *testing.T, lines string) api.Module {
	t.Helper()
	m, n, e := asm.Parse(strings.ReplaceAll(lines, "/", "\n"))
	if e != api.OK {
		t.Fatalf("asm.Parse of %s: %d in line %d", lines, e, n)
	}
	return m
}

// filled is a store of entries.
func filled(t *testing.T, l ...api.Entry) *store.Store {
	t.Helper()
	s, e := store.From(l)
	if e != api.OK {
		t.Fatalf("store.From: %d", e)
	}
	return s
}

// machine is one at the beginning of an export's run.
func machine(t *testing.T, m api.Module, entry string, s *store.Store, limit int64, args ...api.Value) *step.Machine {
	t.Helper()
	x, e := step.New(m, entry, args, s, limit)
	if x == nil || e != api.OK {
		t.Fatalf("P15.1: New of %s: %v, %d", entry, x, e)
	}
	return x
}

// begun is a machine of f of asm's lines.
func begun(t *testing.T, lines string, s *store.Store, limit int64, args ...api.Value) *step.Machine {
	t.Helper()
	return machine(t, made(t, lines), "f", s, limit, args...)
}

// ended is a view of a machine that has ended: how, the gas that is left, and how many steps were paid.
func ended(v api.View) string {
	o, out := v.Outcome, ""
	switch o.Kind {
	case api.Returned:
		out = value.Print(o.Value)
	case api.Trapped:
		out = fmt.Sprint("trap", o.Trap)
	case api.Spent:
		out = "spent"
	default:
		out = fmt.Sprint("kind", o.Kind)
	}
	if o.Kind != api.Returned && !reflect.DeepEqual(o.Value, unit) || o.Kind != api.Trapped && o.Trap != 0 || !v.Ended || len(v.Frames) != 0 || o.Left != v.Left {
		out += " and more"
	}
	return fmt.Sprint(out, " ", v.Left, " ", v.Steps)
}

// seen is a view as text: of each frame its function, place, locals and stack, the outermost first; the gas left; the
// steps paid.
func seen(v api.View) string {
	if v.Ended {
		return ended(v)
	}
	var frames []string
	for _, f := range v.Frames {
		frames = append(frames, fmt.Sprintf("%d at %d %s %s", f.Func, f.At, value.Print(list(f.Locals...)), value.Print(list(f.Stack...))))
	}
	out := fmt.Sprint(strings.Join(frames, ", "), "; ", v.Left, " ", v.Steps)
	if !reflect.DeepEqual(v.Outcome, api.Outcome{}) {
		out += " and more"
	}
	return out
}

// ends runs f of lines on a store, and holds its end against what is wanted.
func ends(t *testing.T, lines string, s *store.Store, limit int64, want string, args ...api.Value) {
	t.Helper()
	x := begun(t, lines, s, limit, args...)
	x.Run(limit + 1)
	if got := ended(x.View()); got != want {
		t.Errorf("P15.2: %s of %.200v with %d: %s; want %s", lines, args, limit, got, want)
	}
}

// shows holds what a machine shows, ahead of its first step and behind each, against the views and instructions wanted.
func shows(t *testing.T, x *step.Machine, want ...string) {
	t.Helper()
	for n, w := range want {
		next := ""
		if i, goesOn := x.Next(); goesOn {
			next = fmt.Sprintf(": %s %d", table[i.Op].name, i.A)
		} else if i != (api.Ins{}) {
			t.Errorf("P15.4: Next beside false: %v", i)
		}
		if got := seen(x.View()) + next; got != w {
			t.Errorf("P15.4: behind %d steps:\n%s; want\n%s", n, got, w)
		}
		if x.Step() != (n < len(want)-1) {
			t.Errorf("P15.2: Step behind %d of them: %v", n, n == len(want)-1)
		}
	}
}

const five = ".const 2/.const 3/.func 0 1 2/const 0/const 1/add/ret/.export f 0"

func TestExamples(t *testing.T) {
	s := store.New()
	shows(t, begun(t, five, s, 7),
		"0 at 0 [unit] []; 7 0: const 0",
		"0 at 2 [unit] [2]; 6 1: const 1",
		"0 at 4 [unit] [2, 3]; 5 2: add 0",
		"0 at 5 [unit] [5]; 1 3: ret 0",
		"5 0 4")
	x := begun(t, five, s, 7)
	if !x.Step() || x.Run(2) != 2 || seen(x.View()) != "0 at 5 [unit] [5]; 1 3" || !x.Step() || ended(x.View()) != "5 0 4" || x.Step() {
		t.Errorf("Step, Run(2), Step: %s", seen(x.View()))
	}
	x = begun(t, five, s, 6)
	if n := x.Run(100); n != 4 || ended(x.View()) != "spent 0 3" {
		t.Errorf("with 6: Run(100): %d, %s", n, seen(x.View()))
	}
	if got := ended(begun(t, five, s, 7, number(1)).View()); got != "trap7 7 0" {
		t.Errorf("of an argument: %s", got)
	}
	m := made(t, five)
	for _, row := range []struct {
		entry string
		s     *store.Store
		limit int64
		want  api.Errno
	}{{"g", s, 7, api.ErrVmEntry}, {"f", nil, 7, api.ErrNil}, {"f", s, -1, api.ErrArg}} {
		if x, e := step.New(m, row.entry, nil, row.s, row.limit); x != nil || e != row.want {
			t.Errorf("New(m, %s, none, .., %d): %v, %d; want %d", row.entry, row.limit, x, e, row.want)
		}
	}
}

func TestExamplesOfTheWhole(t *testing.T) {
	f := ".const 1/.const unit/.func 1 1 2/get 0/const 0/add/ret/const 1/ret/.export f 0"
	s := store.New()
	ends(t, f, s, 100, "42 93 4", number(41))
	ends(t, f, s, 7, "42 0 4", number(41))
	ends(t, f, s, 6, "spent 0 3", number(41))
	ends(t, f, s, 100, "trap3 93 3", text("x"))
	ends(t, f, s, 100, "trap7 100 0")
	g := `.const "k"/.const 1/.const unit/.func 0 0 2/const 0/const 1/save/pop/const 0/load/ret/const 2/ret/.export f 0`
	ends(t, g, s, 100, "1 56 7")
	if l := s.Entries(); !sameEntries(l, []api.Entry{{Key: "k", Value: number(1)}}) {
		t.Errorf("the store behind it: %v", l)
	}
	h := `.const "k"/.const 2/.const unit/.func 0 0 2/const 0/const 1/save/pop/const 2/abort/pop/const 2/ret/.export f 0`
	ends(t, h, s, 100, "trap8 69 6") // 1, 1, 26, 1, 1, 1
	if l := s.Entries(); !sameEntries(l, []api.Entry{{Key: "k", Value: number(2)}}) {
		t.Errorf("the store behind abort: %v", l)
	}
}

// writes does something to the store, so that it shows whether it has run.
const writes = `.const "k"/.const 1/.func 1 1 2/const 0/get 0/save/ret/.export f 0`

// TestP151Errors: the first that applies is told, beside no machine, and nothing is done.
func TestP151Errors(t *testing.T) {
	good, wrong := []api.Value{number(1)}, []api.Value{{Kind: api.Bool, N: 2}}
	for bits := range 64 {
		m, s, limit, entry, args := made(t, writes), filled(t, api.Entry{Key: "x"}), int64(100), "f", good
		kept, want := s, api.OK
		if bits&32 != 0 {
			args = nil // another number: no error
		}
		if bits&16 != 0 {
			args, want = append(wrong, args...), api.ErrVmArgs
		}
		if bits&8 != 0 {
			entry, want = "g", api.ErrVmEntry
		}
		if bits&4 != 0 {
			m.Funcs[0].Stack, want = 1, api.ErrStepModule
		}
		if bits&2 != 0 {
			limit, want = -1, api.ErrArg
		}
		if bits&1 != 0 {
			s, want = nil, api.ErrNil
		}
		x, e := step.New(m, entry, args, s, limit)
		if e != want || (x == nil) != (want != api.OK) {
			t.Errorf("P15.1: with the faults %06b: %v, %d, want %d", bits, x, e, want)
		}
		if kept.Len() != 1 {
			t.Errorf("P15.1: New has changed the store")
		}
	}
}

func TestP151Limits(t *testing.T) {
	m := made(t, writes)
	for limit, want := range map[int64]api.Errno{0: api.OK, 1: api.OK, 999999: api.OK, 1000000: api.OK, 1000001: api.ErrArg,
		-1: api.ErrArg, math.MinInt64: api.ErrArg, math.MaxInt64: api.ErrArg, 1 << 32: api.ErrArg, 1<<32 + 5: api.ErrArg} {
		x, e := step.New(m, "f", []api.Value{unit}, store.New(), limit)
		if e != want || (x == nil) != (want != api.OK) {
			t.Errorf("P15.1: with %d: %v, %d; want %d", limit, x, e, want)
		}
		if x != nil && seen(x.View()) != fmt.Sprintf("0 at 0 [unit] []; %d 0", limit) {
			t.Errorf("P15.1: with %d: %s", limit, seen(x.View()))
		}
	}
	ends(t, writes, store.New(), 1000000, "unit 999971 4", unit)
	ends(t, writes, store.New(), 0, "spent 0 0", unit)
}

// TestP151Module: whatever verify refuses is one error.
func TestP151Module(t *testing.T) {
	fine := ".const 1/.func 0 0 1/const 0/ret/.export f 0"
	all := []api.Module{
		{Consts: []api.Value{{Kind: 6}}, Funcs: []api.Func{{Stack: 1, Code: "\x01\x00\x09"}}, Exports: []api.Export{{Name: "f"}}},
		{Funcs: []api.Func{{Params: 1}}, Exports: []api.Export{{Name: "f"}}},
		{Exports: []api.Export{{Name: "f"}}},
		{Consts: []api.Value{endless()}},
		made(t, ".func 0 0 1/.export f 0"),
		made(t, ".func 0 0 1/.bytes 00/.export f 0"),
		made(t, ".func 0 0 1/const 0/ret/.export f 0"),
		made(t, ".const 1/.func 0 0 1/jump 4/const 0/ret/.export f 0"),
		made(t, strings.Replace(fine, "/.export", "/.func 0 0 1/const 0/pop/pop/ret/.export", 1)), // not in the export's own function
		made(t, ".const 1/.func 0 0 1/const 0/const 0/ret/.export f 0"),
		made(t, ".const true/.func 0 0 2/const 0/unless 7/const 0/const 0/ret/.export f 0"),
		made(t, ".const 1/.func 0 0 1/const 0/.export f 0"),
	}
	codes := map[api.Errno]bool{}
	for n, m := range all {
		codes[verify.Module(m).Code] = true
		for _, entry := range []string{"f", "g"} {
			if x, e := step.New(m, entry, nil, store.New(), 9); x != nil || e != api.ErrStepModule {
				t.Errorf("P15.1: %s of the module %d: %v, %d", entry, n, x, e)
			}
		}
	}
	for e := api.ErrVerifyForm; e <= api.ErrVerifyEnd; e++ {
		if !codes[e] {
			t.Errorf("no fault of code %d", e)
		}
	}
	ends(t, fine, store.New(), 9, "1 7 2")
}

// TestP151Names: an export is found by its whole name alone, and each name is its own function's.
func TestP151Names(t *testing.T) {
	lines := ".const 0/.const 1/.const 2/"
	for n := range 3 {
		lines += fmt.Sprintf(".func 0 0 1/const %d/ret/", n)
	}
	m := made(t, lines+".export A 2/.export a 1/.export a_long_name_of_20_xx 0/.export aa 1")
	for name, f := range map[string]int{"A": 2, "a": 1, "aa": 1, "a_long_name_of_20_xx": 0} {
		x := machine(t, m, name, store.New(), 10)
		if got := seen(x.View()); got != fmt.Sprintf("%d at 0 [] []; 10 0", f) {
			t.Errorf("P15.1: %s: %s", name, got)
		}
		x.Run(3)
		if got := ended(x.View()); got != fmt.Sprint(f, " 8 2") {
			t.Errorf("P15.1: %s: %s", name, got)
		}
	}
	for _, name := range []string{"", "b", "B", "aaa", "a ", "a\x00", "a_long_name_of_20_x", "a_long_name_of_20_xxx", "0", "Aa", "\xff"} {
		if x, e := step.New(m, name, nil, store.New(), 10); e != api.ErrVmEntry || x != nil {
			t.Errorf("P15.1: %q: %v, %d", name, x, e)
		}
	}
	for _, none := range []api.Module{{}, {Consts: []api.Value{}, Funcs: []api.Func{}, Exports: []api.Export{}}} {
		if x, e := step.New(none, "f", nil, store.New(), 10); e != api.ErrVmEntry || x != nil {
			t.Errorf("P15.1: of a module without anything: %v, %d", x, e)
		}
	}
}

// TestP151WrongArgs: each wrong value is found, wherever it stands, and however many there are.
func TestP151WrongArgs(t *testing.T) {
	m := made(t, writes)
	for n, wrong := range wrongs() {
		for count := range 12 {
			for at := range count {
				args := make([]api.Value, count)
				args[at] = wrong
				if x, e := step.New(m, "f", args, store.New(), 100); e != api.ErrVmArgs || x != nil {
					t.Errorf("P15.1: the wrong value %d at %d of %d: %v, %d", n, at, count, x, e)
				}
			}
		}
	}
	for n, v := range []api.Value{longText(2047), units(2047), deep(8), record(strings.Repeat("k", 32), unit), number(math.MinInt64)} {
		s := store.New()
		x := machine(t, m, "f", s, 10000, v)
		if l := x.View().Frames[0].Locals; len(l) != 1 || !same(l[0], v) {
			t.Errorf("P15.1: the right value %d: %.100v", n, l)
		}
		x.Run(10)
		if got := x.View().Outcome; got.Kind != api.Returned || s.Len() != 1 {
			t.Errorf("P15.1: the right value %d: %v", n, got)
		}
	}
}

// TestP151Arity: with another number of arguments it has ended, with all gas left, and nothing is done.
func TestP151Arity(t *testing.T) {
	for params := range 9 {
		m := made(t, fmt.Sprintf(`.const "k"/.func %d %d 2/const 0/const 0/save/ret/.export f 0`, params, params))
		for count := range 12 {
			for _, limit := range []int64{0, 1, 500, 1000000} {
				s := store.New()
				x := machine(t, m, "f", s, limit, make([]api.Value, count)...)
				if count == params {
					if x.View().Ended {
						t.Errorf("P15.1: %d arguments of as many: %s", count, seen(x.View()))
					}
					continue
				}
				i, goesOn := x.Next()
				if got := ended(x.View()); got != fmt.Sprint("trap7 ", limit, " 0") || goesOn || i != (api.Ins{}) {
					t.Errorf("P15.1: %d arguments of %d with %d: %s, %v", count, params, limit, got, i)
				}
				if x.Step() || x.Run(5) != 0 || s.Len() != 0 || ended(x.View()) != fmt.Sprint("trap7 ", limit, " 0") {
					t.Errorf("P15.1: %d arguments of %d with %d: it goes on: %s", count, params, limit, seen(x.View()))
				}
			}
		}
	}
	ends(t, writes, store.New(), 50, "trap7 50 0", make([]api.Value, 100000)...)
}

// TestP152Operations: what each operation that stands in the table of chapter 13 gives, and what it costs.
func TestP152Operations(t *testing.T) {
	abc, pair, rec := text("abc"), list(number(7), text("xy")), record("a b", number(1), text("z"))
	for _, row := range []struct {
		op   string
		cost int64
		want string
		args []api.Value
	}{
		{"add", 4, "5", []api.Value{number(2), number(3)}},
		{"add", 10, `"abcabc"`, []api.Value{abc, abc}},
		{"add", 12, `[7, "xy", 7, "xy"]`, []api.Value{pair, pair}},
		{"add", 7, "trap3", []api.Value{abc, number(1)}},
		{"add", 2052, "trap5", []api.Value{longText(2047), text("x")}},
		{"sub", 2, "-1", []api.Value{number(2), number(3)}},
		{"mul", 3, "6", []api.Value{number(2), number(3)}},
		{"div", 3, "-3", []api.Value{number(-7), number(2)}},
		{"div", 3, "trap1", []api.Value{number(-7), number(0)}},
		{"rem", 3, "-1", []api.Value{number(-7), number(2)}},
		{"neg", 1, "-2", []api.Value{number(2)}},
		{"not", 1, "false", []api.Value{truth(true)}},
		{"eq", 10, "true", []api.Value{abc, abc}},
		{"ne", 7, "true", []api.Value{abc, unit}},
		{"lt", 4, "true", []api.Value{number(2), number(3)}},
		{"le", 4, "true", []api.Value{number(3), number(3)}},
		{"gt", 4, "false", []api.Value{number(2), number(3)}},
		{"ge", 4, "false", []api.Value{number(2), number(3)}},
		{"array 0", 2, "[]", nil},
		{"array 2", 7, `["abc", 3]`, []api.Value{abc, number(3)}},
		{"array 1", 10, "trap5", []api.Value{deep(8)}},
		{"record 0", 5, `{"p": unit, "q": "a"}`, []api.Value{text("a"), unit}},
		{"record 2", 2, "{}", nil},
		{"record 3", 4, "trap3", []api.Value{unit, unit}},
		{"record 4", 3, "trap3", []api.Value{unit}},
		{"index", 2, "98", []api.Value{abc, number(1)}},
		{"index", 2, "trap2", []api.Value{pair, number(2)}},
		{"field 1", 2, "1", []api.Value{rec}},
		{"field 1", 2, "trap6", []api.Value{record("b", unit)}},
		{"len", 1, "2", []api.Value{rec}},
		{"push", 8, `[7, "xy", unit]`, []api.Value{pair, unit}},
		{"change", 9, `[unit, "xy"]`, []api.Value{pair, number(0), unit}},
		{"slice", 8, `"b"`, []api.Value{abc, number(1), number(2)}},
		{"with", 13, `{"a": unit, "b": "z"}`, []api.Value{rec, text("a"), unit}},
		{"with", 45, "trap6", []api.Value{rec, longText(33), unit}},
		{"without", 12, `{"b": "z"}`, []api.Value{rec, text("a")}},
		{"keys", 10, `["a", "b"]`, []api.Value{rec}},
		{"has", 2, "true", []api.Value{rec, text("b")}},
		{"kind", 1, "5", []api.Value{rec}},
		{"digest", 28, digest(rec), []api.Value{rec}},
		{"abort", 1, "trap8", []api.Value{units(2047)}},
		{"test", 1, "false", []api.Value{truth(false)}},
		{"test", 1, "true", []api.Value{truth(true)}},
		{"test", 1, "trap3", []api.Value{number(1)}},
	} {
		n := len(row.args)
		gets := ""
		for k := range n {
			gets += fmt.Sprintf("get %d/", k)
		}
		lines := fmt.Sprintf(`.const ["q", "p"]/.const "a"/.const []/.const ["a", "a"]/.const ["%s"]/.func %d %d %d/%s%s/ret/.export f 0`,
			strings.Repeat("k", 33), n, n, max(1, n), gets, row.op)
		paid, steps := int64(n)+row.cost, n+1
		if !strings.HasPrefix(row.want, "trap") {
			paid, steps = paid+1, steps+1
		}
		ends(t, lines, store.New(), 5000, fmt.Sprint(row.want, " ", 5000-paid, " ", steps), row.args...)
		ends(t, lines, store.New(), paid, fmt.Sprint(row.want, " 0 ", steps), row.args...)
		ends(t, lines, store.New(), paid-1, fmt.Sprint("spent 0 ", steps-1), row.args...)
	}
}

// digest is the text of the Bytes that digest gives.
func digest(v api.Value) string {
	b, _ := wire.Encode(v)
	d := hash.Sum(b)
	return value.Print(text(string(d[:])))
}

// TestP152Spent: what can't be paid is not done: nothing is left, and nothing else changes.
func TestP152Spent(t *testing.T) {
	for _, row := range []struct {
		lines string
		limit int64
		steps int
	}{
		{writes, 27, 2}, // 1, 1, 26 for save, 1
		{writes, 26, 2},
		{writes, 2, 2},
		{writes, 1, 1},
		{writes, 0, 0},
		{`.const "x"/.func 1 1 1/const 0/drop/ret/.export f 0`, 12, 1},
		{".func 1 1 1/get 0/call 0/ret/.export f 0", 8, 1},
		{".const false/.func 1 1 1/.at top/const 0/unless top/const 0/ret/.export f 0", 2, 1},
	} {
		s := filled(t, api.Entry{Key: "x", Value: number(3)})
		x := begun(t, row.lines, s, row.limit, number(1))
		if n := x.Run(int64(row.steps)); n != int64(row.steps) || x.View().Ended {
			t.Errorf("P15.2: %s with %d: %d steps, %s", row.lines, row.limit, n, seen(x.View()))
		}
		if !x.Step() || ended(x.View()) != fmt.Sprint("spent 0 ", row.steps) || x.Step() || s.Len() != 1 {
			t.Errorf("P15.2: %s with %d: %s, %v", row.lines, row.limit, seen(x.View()), s.Entries())
		}
	}
}

// TestP152Ended: behind each of the ends nothing goes on, and what is shown stays.
func TestP152Ended(t *testing.T) {
	start := `.const "a"/.const 1/.func 0 0 2/const 0/const 1/save/pop/`
	for end, want := range map[string]string{"const 1/ret": "1 169 6", "const 1/abort/ret": "trap8 169 6", ".at top/jump top": "spent 0 175"} {
		s := store.New()
		x := begun(t, start+end+"/.export f 0", s, 200)
		x.Run(math.MaxInt64)
		s.Delete("a")
		for range 3 {
			i, goesOn := x.Next()
			if x.Step() || x.Run(9) != 0 || goesOn || i != (api.Ins{}) || ended(x.View()) != want || s.Len() != 0 {
				t.Errorf("P15.2: %s: behind its end: %s; want %s", end, seen(x.View()), want)
			}
		}
	}
}

// TestP153Run: as many Steps as are asked for, none below 1, no more than there are.
func TestP153Run(t *testing.T) {
	for most, want := range map[int64]int64{math.MinInt64: 0, -1: 0, 0: 0, 1: 1, 2: 2, 3: 3, 4: 4, 5: 4, 100: 4, math.MaxInt64: 4} {
		for limit := int64(6); limit <= 8; limit++ { // with 6 the fourth Step is the one that spends
			x := begun(t, five, store.New(), limit)
			n := x.Run(most)
			v := x.View()
			if n != want || v.Ended != (want == 4) {
				t.Errorf("P15.3: Run(%d) with %d: %d, %s", most, limit, n, seen(v))
			}
			if rest := x.Run(most); want > 0 && rest != min(want, 4-want) || want == 0 && rest != 0 {
				t.Errorf("P15.3: Run(%d) once more, with %d: %d", most, limit, rest)
			}
		}
	}
	loop := ".func 0 0 0/jump 0/.export f 0"
	x := begun(t, loop, store.New(), 1000000)
	if n := x.Run(999999); n != 999999 || seen(x.View()) != "0 at 0 [] []; 1 999999" {
		t.Errorf("P15.3: Run(999999): %d, %s", n, seen(x.View()))
	}
	if n := x.Run(999999); n != 2 || ended(x.View()) != "spent 0 1000000" {
		t.Errorf("P15.3: Run once more: %d, %s", n, seen(x.View()))
	}
}

// TestP154Plain: const, get, set, pop, jump, unless, test, as they are seen.
func TestP154Plain(t *testing.T) {
	shows(t, begun(t, ".const true/.const [1]/.func 1 2 2/get 0/const 1/set 1/test/unless 0/jump on/pop/.at on/const 0/pop/get 1/ret/.export f 0", store.New(), 50, truth(true)),
		"0 at 0 [true, unit] []; 50 0: get 0",
		"0 at 2 [true, unit] [true]; 49 1: const 1",
		"0 at 4 [true, unit] [true, [1]]; 48 2: set 1",
		"0 at 6 [true, [1]] [true]; 47 3: test 0",
		"0 at 7 [true, [1]] [true]; 46 4: unless 0",
		"0 at 10 [true, [1]] []; 44 5: jump 14",
		"0 at 14 [true, [1]] []; 43 6: const 0",
		"0 at 16 [true, [1]] [true]; 42 7: pop 0",
		"0 at 17 [true, [1]] []; 41 8: get 1",
		"0 at 19 [true, [1]] [[1]]; 40 9: ret 0",
		"[1] 39 10")
}

// TestP154Unless: at false the frame goes on at the place.
func TestP154Unless(t *testing.T) {
	lines := ".const 1/.const 2/.func 1 1 1/get 0/unless no/const 0/ret/.at no/const 1/ret/.export f 0"
	shows(t, begun(t, lines, store.New(), 9, truth(false)),
		"0 at 0 [false] []; 9 0: get 0",
		"0 at 2 [false] [false]; 8 1: unless 8",
		"0 at 8 [false] []; 6 2: const 1",
		"0 at 10 [false] [2]; 5 3: ret 0",
		"2 4 4")
	for _, v := range []api.Value{unit, number(0), number(1), text(""), list(), record("")} {
		ends(t, lines, store.New(), 5, "trap3 2 2", v)
		ends(t, lines, store.New(), 2, "spent 0 1", v)
	}
}

// TestP154Calls: the outermost frame stands first and goes on behind its call, without what was taken; arguments come in
// their order, the other locals are Unit; the result goes to the frame around.
func TestP154Calls(t *testing.T) {
	lines := ".const 7/.const 2/.func 0 1 3/const 0/const 0/const 1/call 2/sub/ret/.func 0 0 1/jump 0/.func 2 3 2/get 1/call 3/get 0/sub/ret/.func 1 1 1/get 0/ret/.export f 0"
	shows(t, begun(t, lines, store.New(), 99),
		"0 at 0 [unit] []; 99 0: const 0",
		"0 at 2 [unit] [7]; 98 1: const 0",
		"0 at 4 [unit] [7, 7]; 97 2: const 1",
		"0 at 6 [unit] [7, 7, 2]; 96 3: call 2",
		"0 at 8 [unit] [7], 2 at 0 [7, 2, unit] []; 88 4: get 1",
		"0 at 8 [unit] [7], 2 at 2 [7, 2, unit] [2]; 87 5: call 3",
		"0 at 8 [unit] [7], 2 at 4 [7, 2, unit] [], 3 at 0 [2] []; 79 6: get 0",
		"0 at 8 [unit] [7], 2 at 4 [7, 2, unit] [], 3 at 2 [2] [2]; 78 7: ret 0",
		"0 at 8 [unit] [7], 2 at 4 [7, 2, unit] [2]; 77 8: get 0",
		"0 at 8 [unit] [7], 2 at 6 [7, 2, unit] [2, 7]; 76 9: sub 0",
		"0 at 8 [unit] [7], 2 at 7 [7, 2, unit] [-5]; 74 10: ret 0",
		"0 at 8 [unit] [7, -5]; 73 11: sub 0",
		"0 at 9 [unit] [12]; 71 12: ret 0",
		"12 70 13")
}

// TestP154Fresh: each call has locals of its own, and leaves those of others alone.
func TestP154Fresh(t *testing.T) {
	s := store.New()
	ends(t, ".const 1/.func 0 0 1/call 1/pop/call 1/ret/.func 0 2 2/get 1/const 0/set 1/ret/.export f 0", s, 99, "unit 73 12")
	ends(t, ".const 1/.const 2/.func 0 1 2/const 0/set 0/const 1/call 1/pop/get 0/ret/.func 1 1 1/const 1/set 0/get 0/ret/.export f 0", s, 99, "1 81 11")
	eight := ".func 8 8 9/get 0/get 1/get 2/get 3/get 4/get 5/get 6/get 7/call 1/ret/.func 8 8 8/get 7/get 6/get 5/get 4/get 3/get 2/get 1/get 0/array 8/ret/.export f 0"
	var args []api.Value
	for n := range 8 {
		args = append(args, number(int64(n)))
	}
	ends(t, eight, s, 99, "[7, 6, 5, 4, 3, 2, 1, 0] 63 20", args...)
}

// TestP154Depth: 32 frames may be, the call of one more traps, once it is paid.
func TestP154Depth(t *testing.T) {
	self := ".func 0 0 1/call 0/ret/.export f 0"
	x := begun(t, self, store.New(), 1000)
	for n := range 32 {
		v := x.View()
		if len(v.Frames) != n+1 || v.Frames[n].At != 0 || n > 0 && v.Frames[n-1].At != 2 {
			t.Fatalf("P15.4: behind %d calls: %s", n, seen(v))
		}
		x.Step()
	}
	if got := ended(x.View()); got != "trap4 744 32" {
		t.Errorf("P15.2: a call too deep: %s", got)
	}
	ends(t, self, store.New(), 256, "trap4 0 32")
	ends(t, self, store.New(), 255, "spent 0 31")
	down := ".const 1/.const 0/.func 1 1 2/get 0/const 1/gt/unless end/get 0/const 0/sub/call 0/ret/.at end/const 0/ret/.export f 0"
	ends(t, down, store.New(), 1000, "1 339 285", number(31)) // 31 times 9 steps and 21 gas, and a last time 6 and 10
	ends(t, down, store.New(), 1000, "trap4 360 256", number(32))
}

// TestP154Store: the store's instructions, as they are seen.
func TestP154Store(t *testing.T) {
	s := filled(t, api.Entry{Key: "m", Value: units(2)})
	lines := `.const "k"/.const 5/.const ""/.func 0 0 2/const 0/const 1/save/pop/const 2/after/after/load/pop/const 0/drop/pop/const 0/drop/pop/const 0/load/ret/.export f 0`
	shows(t, begun(t, lines, s, 200),
		`0 at 0 [] []; 200 0: const 0`,
		`0 at 2 [] ["k"]; 199 1: const 1`,
		`0 at 4 [] ["k", 5]; 198 2: save 0`,
		`0 at 5 [] [unit]; 172 3: pop 0`,
		`0 at 6 [] []; 171 4: const 2`,
		`0 at 8 [] [""]; 170 5: after 0`,
		`0 at 9 [] ["k"]; 159 6: after 0`,
		`0 at 10 [] ["m"]; 147 7: load 0`,
		`0 at 11 [] [[unit, unit]]; 132 8: pop 0`, // 10, 2 for the key, 3 for what stands there
		`0 at 12 [] []; 131 9: const 0`,
		`0 at 14 [] ["k"]; 130 10: drop 0`,
		`0 at 15 [] [true]; 118 11: pop 0`,
		`0 at 16 [] []; 117 12: const 0`,
		`0 at 18 [] ["k"]; 116 13: drop 0`,
		`0 at 19 [] [false]; 104 14: pop 0`,
		`0 at 20 [] []; 103 15: const 0`,
		`0 at 22 [] ["k"]; 102 16: load 0`,
		`0 at 23 [] [unit]; 90 17: ret 0`,
		`unit 89 18`)
	if !sameEntries(s.Entries(), []api.Entry{{Key: "m", Value: units(2)}}) {
		t.Errorf("P15.2: the store behind it: %v", s.Entries())
	}
}

// Each does one of the store's instructions, with its arguments.
const (
	loads  = ".func 1 1 1/get 0/load/ret/.export f 0"
	saves  = ".func 2 2 2/get 0/get 1/save/ret/.export f 0"
	drops  = ".func 1 1 1/get 0/drop/ret/.export f 0"
	afters = ".func 1 1 1/get 0/after/ret/.export f 0"
)

// TestP152StoreTraps: what is no key, and what the store refuses.
func TestP152StoreTraps(t *testing.T) {
	for _, v := range []api.Value{unit, truth(false), number(7), list(), texts("k"), record(""), record("k", unit)} {
		s, w := filled(t, api.Entry{Key: "k", Value: units(100)}), weigh(v)
		ends(t, loads, s, 100, fmt.Sprint("trap3 ", 89-w, " 2"), v)
		ends(t, loads, s, 10+w, "spent 0 1", v)
		ends(t, saves, s, 100, fmt.Sprint("trap3 ", 76-2*w, " 3"), v, unit)
		ends(t, drops, s, 100, fmt.Sprint("trap3 ", 89-w, " 2"), v)
		ends(t, afters, s, 100, fmt.Sprint("trap3 ", 89-w, " 2"), v)
		if s.Len() != 1 {
			t.Errorf("P15.2: a trap has changed the store: %v", s.Entries())
		}
	}
	for _, count := range []int{0, 1, 32, 33, 2047} {
		key, s, w := longText(count), store.New(), int64(count)+1
		want := func(may bool, given string, left int64, steps int) string {
			if may {
				return fmt.Sprint(given, " ", left-1, " ", steps+1)
			}
			return fmt.Sprint("trap9 ", left, " ", steps)
		}
		may := count >= 1 && count <= 32
		ends(t, loads, s, 9000, want(may, "unit", 8989-w, 2), key)
		ends(t, drops, s, 9000, want(may, "false", 8989-w, 2), key)
		ends(t, afters, s, 9000, want(count <= 32, "unit", 8989-w, 2), key)
		ends(t, saves, s, 9000, want(may, "unit", 8976-2*w, 3), key, unit)
		if may != (s.Len() == 1) {
			t.Errorf("P15.2: save under %d bytes: %v", count, s.Entries())
		}
	}
}

// TestP152Full: a full store refuses what is new, not what takes the place of something.
func TestP152Full(t *testing.T) {
	s := store.New()
	for n := range 128 {
		s.Put(fmt.Sprintf("%03d", n), unit)
	}
	ends(t, saves, s, 100, "trap9 68 3", text("new"), unit)
	ends(t, saves, s, 100, "unit 65 4", text("127"), list(unit))
	if s.Len() != 128 {
		t.Errorf("P15.2: %d entries", s.Len())
	}
	heavy := store.New()
	for n := range 15 {
		heavy.Put(fmt.Sprintf("%02d", n), longText(2047))
	}
	room := 32768 - heavy.Weight()
	ends(t, saves, heavy, 9999, fmt.Sprint("trap9 ", 9999-28-2*(room-2), " 3"), text("zz"), longText(room-3))
	ends(t, saves, heavy, 9999, fmt.Sprint("unit ", 9999-29-2*(room-3), " 4"), text("zz"), longText(room-4))
	if heavy.Weight() != 32768 {
		t.Errorf("P15.2: a weight of %d", heavy.Weight())
	}
}

// TestP152LongCode: places that need both bytes, and code that no way leads to.
func TestP152LongCode(t *testing.T) {
	pad := strings.Repeat("jump 0/", 1331)
	ends(t, ".const 5/.func 0 0 1/const 0/jump end/"+pad+"ret/.at end/ret/.export f 0", store.New(), 100, "5 97 3")
	ends(t, ".const false/.const 5/.func 0 0 1/const 0/unless end/"+pad[7:]+"ret/.at end/const 1/ret/.export f 0", store.New(), 100, "5 95 4")
	dead := `.const ["a", "b"]/.const 1/.func 0 0 1/jump on/record 0/add/call 1/unless 0/.at on/const 1/ret/array 40/save/.func 8 8 0/jump 0/.export f 0`
	ends(t, dead, store.New(), 9, "1 6 3")
}

// TestP155AsItWas: module and arguments are as they were at New, and New and Steps leave them as they are.
func TestP155AsItWas(t *testing.T) {
	lines := `.const [1, "x"]/.const ["a"]/.const 2/.func 1 1 2/const 0/pop/const 2/record 1/pop/call 1/get 0/array 2/ret/.func 0 1 1/const 0/ret/.export f 0/.export g 1`
	want := `[[1, "x"], [3, {"k": [4]}]]`
	for most := range int64(13) {
		m, before := made(t, lines), made(t, lines)
		spare := append(m.Exports, api.Export{Name: "spare"})
		m.Exports = spare[:2]
		room := []api.Value{number(3), record("k", list(number(4))), number(77)}
		args := []api.Value{{Kind: api.Array, L: room[:2]}, number(78)}
		x := machine(t, m, "f", store.New(), 100, args[:1]...)
		x.Run(most)
		x.View()
		if !reflect.DeepEqual(m, before) || spare[2].Name != "spare" {
			t.Errorf("R3: the module is changed: %v", m)
		}
		if !same(list(args...), list(list(room[:2]...), number(78))) || !same(list(room...), list(number(3), record("k", list(number(4))), number(77))) {
			t.Errorf("R3: the arguments are changed: %v, %v", args, room)
		}
		m.Consts[0].L[0], m.Consts[1], m.Consts[2] = number(9), unit, unit
		m.Consts = m.Consts[:1]
		m.Funcs[0], m.Funcs[1] = api.Func{}, api.Func{Params: 3, Locals: 3, Code: "\x00"}
		m.Exports[0] = api.Export{Name: "z", Func: 7}
		room[1].L[0].L[0], room[1].K[0], room[0], args[0] = unit, "z", unit, unit
		x.Run(100)
		if o := x.View().Outcome; o.Kind != api.Returned || value.Print(o.Value) != want {
			t.Errorf("P15.5: changed behind %d steps: %v", most, o)
		}
	}
}

// held are all lists' and texts' memories of values.
func held(l []api.Value) []unsafe.Pointer {
	var out []unsafe.Pointer
	if cap(l) > 0 {
		out = append(out, unsafe.Pointer(unsafe.SliceData(l)))
	}
	for _, v := range l {
		if cap(v.K) > 0 {
			out = append(out, unsafe.Pointer(unsafe.SliceData(v.K)))
		}
		for _, s := range append([]string{v.S}, v.K...) {
			if s != "" {
				out = append(out, unsafe.Pointer(unsafe.StringData(s)))
			}
		}
		out = append(out, held(v.L)...)
	}
	return out
}

// heldIn are those of a view.
func heldIn(v api.View) []unsafe.Pointer {
	out := held(v.Outcome.Value.L)
	for _, f := range v.Frames {
		out = append(append(out, held(f.Locals)...), held(f.Stack)...)
	}
	return out
}

// scribble writes into all lists of values, spare room too.
func scribble(l []api.Value) {
	l = l[:cap(l)]
	for n, v := range l {
		scribble(v.L)
		for k := range v.K[:cap(v.K)] {
			v.K[:cap(v.K)][k] = "scribbled"
		}
		l[n] = number(-99)
	}
}

// TestP155NewMemory: what View answers is new memory, no two lists of it are one, and it is nobody's else.
func TestP155NewMemory(t *testing.T) {
	rich := func() api.Value {
		return list(text("abc"), record("key other", list(number(1)), text("de")), list(), record(""))
	}
	m := made(t, `.const unit/.const "k"/.func 1 3 3/const 0/const 0/set 1/get 0/set 2/get 2/get 0/call 1/array 3/ret/.func 1 1 1/get 0/pop/const 1/load/ret/.export f 0`)
	m.Consts[0] = rich()
	arg, s := rich(), filled(t, api.Entry{Key: "k", Value: rich()})
	x := machine(t, m, "f", s, 1000, arg)
	var earlier []unsafe.Pointer
	keep := []api.View{} // so that no memory is used twice
	for goesOn := true; goesOn; goesOn = x.Step() {
		v, again := x.View(), x.View()
		if seen(v) != seen(again) {
			t.Fatalf("P15.5: two views: %s, %s", seen(v), seen(again))
		}
		others := slices.Concat(earlier, heldIn(again), held(m.Consts), held([]api.Value{arg}))
		all := heldIn(v)
		for k, p := range all {
			if slices.Contains(all[:k], p) || slices.Contains(others, p) {
				t.Fatalf("P15.5: a memory is shared: %s", seen(v))
			}
		}
		earlier, keep = append(earlier, all...), append(keep, v, again)
		for _, f := range v.Frames {
			scribble(f.Locals)
			scribble(f.Stack)
		}
		scribble(v.Outcome.Value.L)
		frames := v.Frames[:cap(v.Frames)]
		clear(frames)
		if got := seen(x.View()); got != seen(again) {
			t.Fatalf("P15.5: a view that is written into changes the machine: %s, was %s", got, seen(again))
		}
	}
	want := list(rich(), rich(), rich())
	if o := x.View().Outcome; !same(o.Value, want) {
		t.Errorf("P15.5: %s", value.Print(o.Value))
	}
	if !same(arg, rich()) || !same(m.Consts[0], rich()) || !sameEntries(s.Entries(), []api.Entry{{Key: "k", Value: rich()}}) {
		t.Errorf("R3: what was handed in is changed")
	}
	if len(keep) < 20 {
		t.Errorf("%d views", len(keep))
	}
}

// TestP155Store: the store is the caller's: what is done to it between two steps is seen, and what the machine does is
// seen in it at once.
func TestP155Store(t *testing.T) {
	s := store.New()
	lines := `.const "k"/.const 1/.func 0 0 2/const 0/const 1/save/pop/const 0/load/const 0/load/array 2/ret/.export f 0`
	x := begun(t, lines, s, 200)
	x.Run(2)
	if s.Len() != 0 {
		t.Errorf("P15.5: ahead of save: %v", s.Entries())
	}
	s.Checkpoint()
	x.Step()
	if !sameEntries(s.Entries(), []api.Entry{{Key: "k", Value: number(1)}}) || s.Open() != 1 {
		t.Errorf("P15.5: behind save: %v, %d open", s.Entries(), s.Open())
	}
	x.Run(2)
	s.Put("k", units(4))
	left := x.View().Left
	x.Step()
	if got := seen(x.View()); got != fmt.Sprintf("0 at 9 [] [[unit, unit, unit, unit]]; %d 6", left-17) {
		t.Errorf("P15.5: what was put is not seen: %s", got)
	}
	if e := s.Rollback(); e != api.OK || s.Len() != 0 {
		t.Errorf("P15.5: Rollback: %d, %v", e, s.Entries())
	}
	x.Run(9)
	if got := ended(x.View()); got != fmt.Sprintf("[[unit, unit, unit, unit], unit] %d 10", left-17-1-12-8-1) {
		t.Errorf("P15.5: what was taken back is still seen: %s", got)
	}
}

// TestP155Apart: two machines have nothing in common but the store.
func TestP155Apart(t *testing.T) {
	lines := `.const "n"/.const 1/.func 1 1 3/const 0/get 0/save/pop/const 0/load/get 0/array 2/ret/.export f 0`
	m, s, arg := made(t, lines), store.New(), list(number(1))
	one, two := machine(t, m, "f", s, 100, arg), machine(t, m, "f", s, 100, arg)
	three := machine(t, m, "f", store.New(), 100, text("c"))
	one.Run(4)
	if seen(two.View()) != "0 at 0 [[1]] []; 100 0" {
		t.Errorf("P15.5: another machine's steps are seen: %s", seen(two.View()))
	}
	s.Put("n", text("other"))
	three.Run(5)
	one.Run(99)
	two.Run(99)
	three.Run(99)
	for x, want := range map[*step.Machine]string{one: `["other", [1]]`, two: "[[1], [1]]", three: `["c", "c"]`} {
		if o := x.View().Outcome; o.Kind != api.Returned || value.Print(o.Value) != want {
			t.Errorf("P15.5: %s; want %s", value.Print(o.Value), want)
		}
	}
}

// TestP155Nil: a nil machine has nothing; one that New has not made has nothing either.
func TestP155Nil(t *testing.T) {
	for _, x := range []*step.Machine{nil, new(step.Machine)} {
		i, goesOn := x.Next()
		if x.Step() || x.Run(5) != 0 || x.Run(-5) != 0 || !reflect.DeepEqual(x.View(), api.View{}) || goesOn || i != (api.Ins{}) {
			t.Errorf("P15.5: of a nil machine: %v, %v", x.View(), i)
		}
	}
	x := begun(t, writes, new(store.Store), 100, unit) // a store that no call gave takes nothing in
	x.Run(9)
	if got := ended(x.View()); got != "trap9 72 3" {
		t.Errorf("R1: on a zero store: %s", got)
	}
}

// sameFrame: is a frame as another one?
func sameFrame(a, b api.Frame) bool {
	return a.Func == b.Func && a.At == b.At && slices.EqualFunc(a.Locals, b.Locals, same) && slices.EqualFunc(a.Stack, b.Stack, same)
}

func sameView(a, b api.View) bool {
	return a.Left == b.Left && a.Steps == b.Steps && a.Ended == b.Ended && sameOutcome(a.Outcome, b.Outcome) && slices.EqualFunc(a.Frames, b.Frames, sameFrame)
}

// trial is a random run.
type trial struct {
	m     api.Module
	x     api.Export
	args  []api.Value
	first map[string]api.Value
	limit int64
}

func randomTrial(dice *rand.Rand) trial {
	m := randomModule(dice)
	x := m.Exports[dice.Intn(len(m.Exports))]
	return trial{m, x, randomArgs(dice, m.Funcs[x.Func].Params), randomStore(dice), int64(dice.Intn(3000))}
}

// begin is a machine, and its store, at the trial's beginning.
func (r trial) begin(t *testing.T) (*step.Machine, *store.Store) {
	t.Helper()
	s := filled(t, entriesOf(r.first)...)
	return machine(t, r.m, r.x.Name, s, r.limit, r.args...), s
}

// fail tells what was run.
func (r trial) fail(t *testing.T, what string, got, want any) {
	t.Helper()
	lines, _ := asm.Print(r.m)
	t.Fatalf("%s: %s of %v with %d: %v; want %v; of\n%s", what, r.x.Name, r.args, r.limit, got, want, lines)
}

// heights are verify's, of each function, by places.
func heights(t *testing.T, m api.Module) []map[int]int {
	t.Helper()
	var out []map[int]int
	for f := range m.Funcs {
		l, fault := verify.Heights(m, f)
		if fault.Code != api.OK {
			t.Fatalf("verify.Heights: %v", fault)
		}
		by, at := map[int]int{}, 0
		for _, h := range l {
			by[at] = h
			at += 1 + table[m.Funcs[f].Code[at]].size
		}
		out = append(out, by)
	}
	return out
}

// holds asks of a view what P15.6 says.
func (r trial) holds(t *testing.T, v api.View, high []map[int]int) {
	t.Helper()
	if len(v.Frames) > 32 || v.Steps > r.limit || v.Left < 0 || v.Ended != (len(v.Frames) == 0) || !value.Right(v.Outcome.Value) {
		r.fail(t, "P15.6", seen(v), "what may be")
	}
	for n, f := range v.Frames {
		h, begins := high[f.Func][f.At]
		if n < len(v.Frames)-1 {
			h-- // the inner frame's result is still to be given
		}
		if !begins || len(f.Stack) != h || len(f.Locals) != r.m.Funcs[f.Func].Locals {
			r.fail(t, "P15.6: the frame's place, stack, locals", seen(v), h)
		}
		if slices.ContainsFunc(f.Stack, isWrong) || slices.ContainsFunc(f.Locals, isWrong) {
			r.fail(t, "P15.6: a value that is not right", seen(v), "right ones")
		}
	}
}

func isWrong(v api.Value) bool { return !value.Right(v) }

// along goes step by step beside the model, and holds all that is seen against it; how many frames there were at most.
func (r trial) along(t *testing.T) int {
	t.Helper()
	x, s := r.begin(t)
	want := start(r.m, r.x.Func, r.args, r.first, r.limit)
	high := heights(t, r.m)
	deepest, done := 0, int64(0)
	for {
		v := x.View()
		deepest = max(deepest, len(v.Frames))
		r.holds(t, v, high)
		i, goesOn := x.Next()
		j, goesOnToo := want.next()
		if !sameView(v, want.view()) || i != j || goesOn != goesOnToo {
			r.fail(t, fmt.Sprintf("P15.4: behind %d steps", done), fmt.Sprint(seen(v), i), fmt.Sprint(seen(want.view()), j))
		}
		did := x.Step()
		if did != want.step() {
			r.fail(t, "P15.2: Step", did, !did)
		}
		if !did {
			break
		}
		done++
	}
	if done > r.limit+1 {
		r.fail(t, "P15.6: so many Steps", done, r.limit+1)
	}
	if !sameEntries(s.Entries(), entriesOf(want.store)) {
		r.fail(t, "P15.2: the store", s.Entries(), want.store)
	}
	return deepest
}

// TestP156RandomRuns: at each step a random run shows what the model does, and what follows holds.
func TestP156RandomRuns(t *testing.T) {
	dice := rand.New(rand.NewSource(15))
	kinds, deepest := map[string]int{}, 0
	for range 2500 {
		r := randomTrial(dice)
		deepest = max(deepest, r.along(t))
		x, _ := r.begin(t)
		x.Run(math.MaxInt64)
		o := x.View().Outcome
		kinds[fmt.Sprint(o.Kind, o.Trap)]++
	}
	for _, end := range strings.Split("1 0,2 1,2 2,2 3,2 4,2 5,2 6,2 7,2 8,2 9,3 0", ",") {
		if kinds[end] == 0 {
			t.Errorf("no run ended so: %s (%v)", end, kinds)
		}
	}
	if deepest != 32 {
		t.Errorf("the runs had at most %d frames", deepest)
	}
}

// TestP156Most: a run of as many steps as may be.
func TestP156Most(t *testing.T) {
	loop := ".func 1 1 1/.at top/get 0/set 0/jump top/.export f 0"
	for _, limit := range []int64{0, 1, 2, 1000, 1000000} {
		x := begun(t, loop, store.New(), limit, units(2047))
		if n := x.Run(math.MaxInt64); n != limit+1 || ended(x.View()) != fmt.Sprint("spent 0 ", limit) {
			t.Errorf("P15.6: with %d: %d Steps, %s", limit, n, seen(x.View()))
		}
	}
}

// TestP157Cuts: however a run is cut, looked at in between or not, it comes to the same end.
func TestP157Cuts(t *testing.T) {
	dice := rand.New(rand.NewSource(157))
	for range 1000 {
		r := randomTrial(dice)
		whole, s := r.begin(t)
		total := whole.Run(math.MaxInt64)
		for range 3 {
			x, own := r.begin(t)
			done, most := int64(0), int64(1+dice.Intn(20))
			for range 10 * (r.limit + 2) {
				if x.View().Ended {
					break
				}
				switch dice.Intn(4) {
				case 0:
					if x.Step() {
						done++
					}
				case 1:
					x.Next()
					x.View()
					x.Run(0)
				default:
					done += x.Run(dice.Int63n(most) - 1)
				}
			}
			done += x.Run(math.MaxInt64)
			if done != total || !sameView(x.View(), whole.View()) || !sameEntries(own.Entries(), s.Entries()) {
				r.fail(t, "P15.7: cut", fmt.Sprint(seen(x.View()), done), fmt.Sprint(seen(whole.View()), total))
			}
		}
	}
}

// TestT2SameAsVm: a machine that is run to its end comes to what vm tells: outcome, store and gas; one end, and in time.
func TestT2SameAsVm(t *testing.T) {
	dice := rand.New(rand.NewSource(2))
	for range 3000 {
		r := randomTrial(dice)
		image, fault := vm.Load(r.m)
		if image == nil {
			t.Fatalf("vm.Load: %v", fault)
		}
		for _, limit := range []int64{0, 1, r.limit / 2, r.limit, 5000} {
			r.limit = limit
			x, s := r.begin(t)
			own := filled(t, entriesOf(r.first)...)
			want, e := image.Run(r.x.Name, r.args, own, limit)
			n := x.Run(math.MaxInt64)
			v := x.View()
			if e != api.OK || !v.Ended || n > limit+1 || !sameOutcome(v.Outcome, want) || v.Left != want.Left || !sameEntries(s.Entries(), own.Entries()) {
				r.fail(t, "T2", fmt.Sprint(seen(v), s.Entries()), fmt.Sprint(want, e, own.Entries()))
			}
			if k := v.Outcome.Kind; k != api.Returned && k != api.Trapped && k != api.Spent || k == api.Trapped && (v.Outcome.Trap < 1 || v.Outcome.Trap > 9) {
				r.fail(t, "T2: an end", v.Outcome, "one of three")
			}
		}
	}
}

// TestT1Bytes: a module that is read from its bytes steps as the one that they were made of, and running leaves it the
// same bytes.
func TestT1Bytes(t *testing.T) {
	dice := rand.New(rand.NewSource(1))
	for range 300 {
		r := randomTrial(dice)
		b, e := module.Encode(r.m)
		read, _, e2 := module.Decode(b)
		if e != api.OK || e2 != api.OK {
			t.Fatalf("module: %d, %d", e, e2)
		}
		other := r
		other.m = read
		x, s := r.begin(t)
		y, own := other.begin(t)
		for goesOn := true; goesOn; goesOn = x.Step() {
			if !sameView(x.View(), y.View()) {
				r.fail(t, "T1: the module that was read", seen(y.View()), seen(x.View()))
			}
			y.Step()
		}
		again, _ := module.Encode(read)
		if !bytes.Equal(again, b) || !sameEntries(s.Entries(), own.Entries()) {
			r.fail(t, "T1: behind the run", again, b)
		}
	}
}

// TestR3Empty: nil and empty lists are one.
func TestR3Empty(t *testing.T) {
	m := made(t, ".func 0 0 1/array 0/ret/.func 1 1 1/get 0/ret/.export f 0/.export g 1")
	for _, args := range [][]api.Value{nil, {}} {
		x := machine(t, m, "f", store.New(), 9, args...)
		if x.Run(9); ended(x.View()) != "[] 6 2" {
			t.Errorf("R3: %s", seen(x.View()))
		}
	}
	for _, v := range []api.Value{{Kind: api.Array}, {Kind: api.Array, L: []api.Value{}, K: []string{}}} {
		x := machine(t, m, "g", store.New(), 9, v)
		if x.Run(9); ended(x.View()) != "[] 7 2" {
			t.Errorf("R3: %s", seen(x.View()))
		}
	}
}
