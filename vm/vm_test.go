package vm_test

import (
	"fmt"
	"math"
	"reflect"
	"slices"
	"strings"
	"sync"
	"testing"
	"unsafe"

	"scruple/api"
	"scruple/asm"
	"scruple/hash"
	"scruple/module"
	"scruple/store"
	"scruple/value"
	"scruple/verify"
	"scruple/vm"
	"scruple/wire"
)

var unit = api.Value{}

func truth(is bool) api.Value {
	if is {
		return api.Value{Kind: api.Bool, N: 1}
	}
	return api.Value{Kind: api.Bool}
}

func number(n int64) api.Value { return api.Value{Kind: api.Int, N: n} }

func text(s string) api.Value { return api.Value{Kind: api.Bytes, S: s} }

// longText is Bytes of so many bytes: its weight is one more.
func longText(count int) api.Value { return text(strings.Repeat("x", count)) }

func list(l ...api.Value) api.Value { return api.Value{Kind: api.Array, L: l} }

// texts is an array of words.
func texts(words ...string) api.Value {
	out := list()
	for _, w := range words {
		out.L = append(out.L, text(w))
	}
	return out
}

// record is one of keys, parted by spaces, and their values.
func record(keys string, l ...api.Value) api.Value {
	return api.Value{Kind: api.Record, K: strings.Fields(keys), L: l}
}

// units is an array of so many units: its weight is one more.
func units(count int) api.Value { return list(make([]api.Value, count)...) }

// made is the module of asm's lines, parted by /.
func made(t *testing.T, lines string) api.Module {
	t.Helper()
	m, n, e := asm.Parse(strings.ReplaceAll(lines, "/", "\n"))
	if e != api.OK {
		t.Fatalf("asm.Parse of %s: %d in line %d", lines, e, n)
	}
	return m
}

func loaded(t *testing.T, m api.Module) *vm.Image {
	t.Helper()
	i, fault := vm.Load(m)
	if i == nil || fault != (api.Fault{}) {
		t.Fatalf("P14.1: Load: %v, %v", i, fault)
	}
	return i
}

func image(t *testing.T, lines string) *vm.Image {
	t.Helper()
	return loaded(t, made(t, lines))
}

// filled is a store of entries.
func filled(t *testing.T, l ...api.Entry) *store.Store {
	t.Helper()
	s, e := store.From(l)
	if e != api.OK {
		t.Fatalf("store.From: %d", e)
	}
	return s
}

// told is an outcome.
func told(o api.Outcome) string {
	out := ""
	switch o.Kind {
	case api.Returned:
		out = value.Print(o.Value)
	case api.Trapped:
		out = fmt.Sprint("trap", o.Trap)
	case api.Spent:
		out = "spent"
	default:
		out = fmt.Sprint("kind", o.Kind)
	}
	if o.Kind != api.Returned && !reflect.DeepEqual(o.Value, unit) || o.Kind != api.Trapped && o.Trap != 0 {
		out += " and more"
	}
	return fmt.Sprint(out, " ", o.Left)
}

// ends runs f of lines on a store, and holds its outcome against what is wanted.
func ends(t *testing.T, lines string, s *store.Store, limit int64, want string, args ...api.Value) {
	t.Helper()
	o, e := image(t, lines).Run("f", args, s, limit)
	if got := told(o); e != api.OK || got != want {
		t.Errorf("P14.2: %s of %.200v with %d: %s, %d; want %s", lines, args, limit, got, e, want)
	}
}

const five = ".const 2/.const 3/.func 0 1 2/const 0/const 1/add/ret/.export f 0"

func TestExamples(t *testing.T) {
	i, fault := vm.Load(made(t, five))
	if fault != (api.Fault{}) || !slices.Equal(i.Entries(), []string{"f"}) {
		t.Fatalf("Load: %v, %v", i.Entries(), fault)
	}
	s := store.New()
	one := []api.Value{number(1)}
	for _, row := range []struct {
		entry string
		args  []api.Value
		s     *store.Store
		limit int64
		want  string
		e     api.Errno
	}{
		{"f", nil, s, 7, "5 0", api.OK},
		{"f", nil, s, 6, "spent 0", api.OK},
		{"g", nil, s, 9, "kind0 0", api.ErrVmEntry},
		{"f", one, s, 9, "trap7 9", api.OK},
		{"f", nil, nil, 9, "kind0 0", api.ErrNil},
		{"f", nil, s, 1000001, "kind0 0", api.ErrArg},
	} {
		if o, e := i.Run(row.entry, row.args, row.s, row.limit); told(o) != row.want || e != row.e {
			t.Errorf("Run(%s, %v, .., %d): %s, %d; want %s, %d", row.entry, row.args, row.limit, told(o), e, row.want, row.e)
		}
	}
}

func TestExamplesOfTheWhole(t *testing.T) {
	f := ".const 1/.const unit/.func 1 1 2/get 0/const 0/add/ret/const 1/ret/.export f 0"
	s := store.New()
	ends(t, f, s, 100, "42 93", number(41))
	ends(t, f, s, 7, "42 0", number(41))
	ends(t, f, s, 6, "spent 0", number(41))
	ends(t, f, s, 100, "trap3 93", text("x"))
	ends(t, f, s, 100, "trap7 100")
	g := `.const "k"/.const 1/.const unit/.func 0 0 2/const 0/const 1/save/pop/const 0/load/ret/const 2/ret/.export f 0`
	ends(t, g, s, 100, "1 56")
	if l := s.Entries(); !sameEntries(l, []api.Entry{{Key: "k", Value: number(1)}}) {
		t.Errorf("the store behind it: %v", l)
	}
	h := `.const "k"/.const 2/.const unit/.func 0 0 2/const 0/const 1/save/pop/const 2/abort/pop/const 2/ret/.export f 0`
	ends(t, h, s, 100, "trap8 69") // 1, 1, 26, 1, 1, 1
	if l := s.Entries(); !sameEntries(l, []api.Entry{{Key: "k", Value: number(2)}}) {
		t.Errorf("P14.3: the store behind abort: %v", l)
	}
}

// TestP141Faults: what verify refuses makes no image, and its fault is told.
func TestP141Faults(t *testing.T) {
	all := []api.Module{
		{Consts: []api.Value{{Kind: 6}}},
		{Funcs: []api.Func{{Params: 1}}},
		{Exports: []api.Export{{Name: "f"}}},
		made(t, ".func 0 0 1/.export f 0"),
		made(t, ".func 0 0 1/.bytes 00"),
		made(t, ".func 0 0 1/const 0/ret"),
		made(t, ".const 1/.func 0 0 1/jump 4/const 0/ret"),
		made(t, ".const 1/.func 0 0 1/const 0/ret/.func 0 0 1/const 0/pop/pop/ret"),
		made(t, ".const 1/.func 0 0 1/const 0/const 0/ret"),
		made(t, ".const true/.func 0 0 2/const 0/unless 7/const 0/const 0/ret"),
		made(t, ".const 1/.func 0 0 1/const 0"),
	}
	seen := map[api.Errno]bool{}
	for n, m := range all {
		want := verify.Module(m)
		i, fault := vm.Load(m)
		if i != nil || fault != want || want.Code == api.OK {
			t.Errorf("P14.1: %d: %v, %v; want %v", n, i, fault, want)
		}
		seen[fault.Code] = true
	}
	for e := api.ErrVerifyForm; e <= api.ErrVerifyEnd; e++ {
		if !seen[e] {
			t.Errorf("no fault of code %d", e)
		}
	}
}

func TestP141Entries(t *testing.T) {
	fn := ".const 1/.func 0 0 1/const 0/ret"
	for lines, want := range map[string]string{
		".const 1": "",
		fn:         "",
		fn + "/.export Z 0/.export _ 0/.export a 0/.export a0 0/.export aa 0": "Z _ a a0 aa",
		fn + "/.func 0 0 1/const 0/ret/.export b 1/.export c 0":               "b c",
	} {
		i := image(t, lines)
		l := i.Entries()
		if strings.Join(l, " ") != want {
			t.Errorf("P14.1: Entries of %s: %v, want %s", lines, l, want)
		}
		again := i.Entries()
		for k := range l {
			if unsafe.StringData(l[k]) == unsafe.StringData(again[k]) {
				t.Errorf("R3: two answers share a name's memory")
			}
			l[k] = "x"
		}
		if again = i.Entries(); strings.Join(again, " ") != want {
			t.Errorf("R3: Entries of %s once more: %v, want %s", lines, again, want)
		}
	}
	if l := loaded(t, api.Module{}).Entries(); len(l) != 0 {
		t.Errorf("P14.1: Entries of a module without anything: %v", l)
	}
}

// TestP141Nil: a nil image has no entries; one that Load has not made has nothing either.
func TestP141Nil(t *testing.T) {
	var none *vm.Image
	if l := none.Entries(); len(l) != 0 {
		t.Errorf("P14.1: Entries of a nil image: %v", l)
	}
	if l := new(vm.Image).Entries(); len(l) != 0 {
		t.Errorf("R1: Entries of a zero image: %v", l)
	}
	if o, e := new(vm.Image).Run("f", nil, store.New(), 9); e != api.ErrVmEntry || told(o) != "kind0 0" {
		t.Errorf("R1: Run of a zero image: %s, %d", told(o), e)
	}
}

// TestP141AsItWas: an image is the module as it was at Load, and Load leaves that as it is.
func TestP141AsItWas(t *testing.T) {
	lines := `.const [1, "x"]/.const ["a"]/.const 2/.func 0 0 2/const 0/pop/const 2/record 1/pop/call 1/ret/.func 0 1 1/const 0/ret/.export f 0/.export g 1`
	m, same := made(t, lines), made(t, lines)
	spare := append(m.Exports, api.Export{Name: "spare"})
	m.Exports = spare[:2]
	i := loaded(t, m)
	if !reflect.DeepEqual(m, same) || spare[2].Name != "spare" {
		t.Errorf("R3: Load has changed the module: %v", m)
	}
	m.Consts[0].L[0] = number(9)
	m.Consts[1] = unit
	m.Consts[2] = unit
	m.Funcs[1] = api.Func{Params: 3, Locals: 3, Code: "\x00"}
	m.Exports[0], m.Exports[1] = api.Export{Name: "z", Func: 7}, api.Export{}
	for _, name := range []string{"f", "g"} {
		o, e := i.Run(name, nil, store.New(), 100)
		if e != api.OK || o.Kind != api.Returned || value.Print(o.Value) != `[1, "x"]` {
			t.Errorf("P14.1: %s behind changes of the module: %s, %d", name, told(o), e)
		}
	}
	if l := i.Entries(); strings.Join(l, " ") != "f g" {
		t.Errorf("P14.1: Entries behind changes of the module: %v", l)
	}
}

// writes does something to the store at once, so that it shows whether it has run.
const writes = `.const "k"/.const 1/.func 1 1 2/const 0/get 0/save/ret/.export f 0`

func endless() api.Value {
	v := units(2)
	v.L[0], v.L[1] = v, v
	return v
}

func deep(count int) api.Value {
	v := list()
	for range count - 1 {
		v = list(v)
	}
	return v
}

// wrongs are values that are not right.
func wrongs() []api.Value {
	return []api.Value{{Kind: 6}, {Kind: -1}, {Kind: math.MaxInt}, {N: 1}, {S: "a"}, {Kind: api.Bool, N: 2}, {Kind: api.Bool, N: -1},
		{Kind: api.Int, S: "a"}, {Kind: api.Bytes, N: 1}, {Kind: api.Array, K: []string{"a"}}, {Kind: api.Record, L: units(1).L},
		{Kind: api.Int, L: units(1).L}, record("b a", unit, unit), record("a a", unit, unit), record(strings.Repeat("k", 33), unit),
		longText(2048), units(2048), deep(9), endless(), list(api.Value{Kind: api.Bool, N: 2})}
}

// TestP142Errors: the first that applies is told, and nothing is done.
func TestP142Errors(t *testing.T) {
	i := image(t, writes)
	var none *vm.Image
	good, wrong := []api.Value{number(1)}, []api.Value{{Kind: api.Bool, N: 2}}
	for bits := range 32 {
		own, s, limit, entry, args := i, filled(t, api.Entry{Key: "x"}), int64(100), "f", good
		kept, want := s, api.OK
		if bits&16 != 0 {
			args, want = wrong, api.ErrVmArgs
		}
		if bits&8 != 0 {
			entry, want = "g", api.ErrVmEntry
		}
		if bits&4 != 0 {
			limit, want = -1, api.ErrArg
		}
		if bits&2 != 0 {
			s, want = nil, api.ErrNil
		}
		if bits&1 != 0 {
			own, want = none, api.ErrNil
		}
		o, e := own.Run(entry, args, s, limit)
		if e != want {
			t.Errorf("P14.2: with the faults %05b: %d, want %d", bits, e, want)
		}
		if e != api.OK && (!reflect.DeepEqual(o, api.Outcome{}) || kept.Len() != 1) {
			t.Errorf("P14.2: beside the error %d: %v, %d entries", e, o, kept.Len())
		}
		if e == api.OK && kept.Len() != 2 {
			t.Errorf("P14.2: without an error nothing was done")
		}
	}
}

func TestP142Limits(t *testing.T) {
	i := image(t, writes)
	for limit, want := range map[int64]api.Errno{0: api.OK, 1: api.OK, 999999: api.OK, 1000000: api.OK, 1000001: api.ErrArg,
		-1: api.ErrArg, math.MinInt64: api.ErrArg, math.MaxInt64: api.ErrArg, 1 << 32: api.ErrArg, 1<<32 + 5: api.ErrArg} {
		o, e := i.Run("f", []api.Value{unit}, store.New(), limit)
		if e != want || e != api.OK && !reflect.DeepEqual(o, api.Outcome{}) {
			t.Errorf("P14.2: with %d: %v, %d; want %d", limit, o, e, want)
		}
	}
	ends(t, writes, store.New(), 1000000, "unit 999971", unit)
	ends(t, writes, store.New(), 0, "spent 0", unit)
}

// TestP142Names: an export is found by its whole name alone, and each name is its own function's.
func TestP142Names(t *testing.T) {
	lines := ".const 0/.const 1/.const 2/"
	for n := range 3 {
		lines += fmt.Sprintf(".func 0 0 1/const %d/ret/", n)
	}
	i := image(t, lines+".export A 2/.export a 1/.export a_long_name_of_20_xx 0/.export aa 1")
	for name, want := range map[string]string{"A": "2 8", "a": "1 8", "aa": "1 8", "a_long_name_of_20_xx": "0 8"} {
		if o, e := i.Run(name, nil, store.New(), 10); e != api.OK || told(o) != want {
			t.Errorf("P14.2: %s: %s, %d; want %s", name, told(o), e, want)
		}
	}
	for _, name := range []string{"", "b", "B", "aaa", "a ", "a\x00", "a_long_name_of_20_x", "a_long_name_of_20_xxx", "0", "Aa", "\xff"} {
		if o, e := i.Run(name, nil, store.New(), 10); e != api.ErrVmEntry || told(o) != "kind0 0" {
			t.Errorf("P14.2: %q: %s, %d", name, told(o), e)
		}
	}
}

// TestP142WrongArgs: each wrong value is found, wherever it stands, and however many there are.
func TestP142WrongArgs(t *testing.T) {
	i := image(t, writes)
	for n, wrong := range wrongs() {
		for count := range 12 {
			for at := range count {
				args := make([]api.Value, count)
				args[at] = wrong
				s := store.New()
				if o, e := i.Run("f", args, s, 100); e != api.ErrVmArgs || told(o) != "kind0 0" || s.Len() != 0 {
					t.Errorf("P14.2: the wrong value %d at %d of %d: %s, %d", n, at, count, told(o), e)
				}
			}
		}
	}
	for n, v := range []api.Value{longText(2047), units(2047), deep(8), record(strings.Repeat("k", 32), unit), number(math.MinInt64)} {
		s := store.New()
		if o, e := i.Run("f", []api.Value{v}, s, 10000); e != api.OK || o.Kind != api.Returned || s.Len() != 1 {
			t.Errorf("P14.2: the right value %d: %s, %d", n, told(o), e)
		}
	}
}

// TestP142Arity: another number of arguments traps with all gas left, and nothing is done.
func TestP142Arity(t *testing.T) {
	for params := range 9 {
		i := image(t, fmt.Sprintf(`.const "k"/.func %d %d 2/const 0/const 0/save/ret/.export f 0`, params, params))
		for count := range 12 {
			for _, limit := range []int64{0, 1, 500, 1000000} {
				s := store.New()
				o, e := i.Run("f", make([]api.Value, count), s, limit)
				want, wantLen := fmt.Sprint("trap7 ", limit), 0
				if count == params && limit >= 31 {
					want, wantLen = fmt.Sprint("unit ", limit-31), 1
				} else if count == params {
					want = "spent 0"
				}
				if e != api.OK || told(o) != want || s.Len() != wantLen {
					t.Errorf("P14.2: %d arguments of %d with %d: %s, %d, %d entries; want %s", count, params, limit, told(o), e, s.Len(), want)
				}
			}
		}
	}
	ends(t, writes, store.New(), 50, "trap7 50", make([]api.Value, 100000)...)
}

// TestP142Operations: what each operation that stands in the table of chapter 13 gives, and what it costs.
func TestP142Operations(t *testing.T) {
	abc, pair, rec := text("abc"), list(number(7), text("xy")), record("a b", number(1), text("z"))
	for _, row := range []struct {
		op   string
		cost int64
		want string
		args []api.Value
	}{
		{"add", 4, "5", []api.Value{number(2), number(3)}},
		{"add", 10, `"abcabc"`, []api.Value{abc, abc}},
		{"add", 12, `[7, "xy", 7, "xy"]`, []api.Value{pair, pair}},
		{"add", 7, "trap3", []api.Value{abc, number(1)}},
		{"add", 2052, "trap5", []api.Value{longText(2047), text("x")}},
		{"sub", 2, "-1", []api.Value{number(2), number(3)}},
		{"sub", 2, "trap3", []api.Value{abc, abc}},
		{"mul", 3, "6", []api.Value{number(2), number(3)}},
		{"div", 3, "-3", []api.Value{number(-7), number(2)}},
		{"div", 3, "trap1", []api.Value{number(-7), number(0)}},
		{"rem", 3, "-1", []api.Value{number(-7), number(2)}},
		{"rem", 3, "trap1", []api.Value{number(-7), number(0)}},
		{"neg", 1, "-2", []api.Value{number(2)}},
		{"neg", 1, "trap3", []api.Value{truth(true)}},
		{"not", 1, "false", []api.Value{truth(true)}},
		{"not", 1, "trap3", []api.Value{number(1)}},
		{"eq", 7, "false", []api.Value{abc, unit}},
		{"eq", 10, "true", []api.Value{abc, abc}},
		{"ne", 7, "true", []api.Value{abc, unit}},
		{"lt", 4, "true", []api.Value{number(2), number(3)}},
		{"le", 4, "true", []api.Value{number(3), number(3)}},
		{"gt", 4, "false", []api.Value{number(2), number(3)}},
		{"ge", 4, "false", []api.Value{number(2), number(3)}},
		{"lt", 7, "trap3", []api.Value{number(2), abc}},
		{"array 0", 2, "[]", nil},
		{"array 2", 7, `["abc", 3]`, []api.Value{abc, number(3)}},
		{"array 1", 10, "trap5", []api.Value{deep(8)}},
		{"record 0", 5, `{"p": unit, "q": "a"}`, []api.Value{text("a"), unit}},
		{"record 2", 2, "{}", nil},
		{"record 3", 4, "trap3", []api.Value{unit, unit}},
		{"record 4", 3, "trap3", []api.Value{unit}},
		{"index", 2, "7", []api.Value{pair, number(0)}},
		{"index", 2, "98", []api.Value{abc, number(1)}},
		{"index", 2, "trap2", []api.Value{pair, number(2)}},
		{"index", 2, "trap3", []api.Value{pair, unit}},
		{"field 1", 2, "1", []api.Value{rec}},
		{"field 1", 2, "trap6", []api.Value{record("b", unit)}},
		{"field 1", 2, "trap3", []api.Value{pair}},
		{"len", 1, "3", []api.Value{abc}},
		{"len", 1, "2", []api.Value{rec}},
		{"len", 1, "trap3", []api.Value{unit}},
		{"push", 8, `[7, "xy", unit]`, []api.Value{pair, unit}},
		{"push", 2051, "trap5", []api.Value{units(2047), unit}},
		{"change", 9, `[unit, "xy"]`, []api.Value{pair, number(0), unit}},
		{"change", 9, "trap2", []api.Value{pair, number(2), unit}},
		{"slice", 8, `"b"`, []api.Value{abc, number(1), number(2)}},
		{"slice", 8, "trap2", []api.Value{abc, number(2), number(1)}},
		{"with", 13, `{"a": unit, "b": "z"}`, []api.Value{rec, text("a"), unit}},
		{"with", 45, "trap6", []api.Value{rec, longText(33), unit}},
		{"without", 12, `{"b": "z"}`, []api.Value{rec, text("a")}},
		{"without", 12, "trap6", []api.Value{rec, text("c")}},
		{"keys", 10, `["a", "b"]`, []api.Value{rec}},
		{"has", 2, "true", []api.Value{rec, text("b")}},
		{"has", 2, "false", []api.Value{rec, text("c")}},
		{"kind", 1, "5", []api.Value{rec}},
		{"digest", 28, digest(rec), []api.Value{rec}},
		{"abort", 1, "trap8", []api.Value{unit}},
		{"abort", 1, "trap8", []api.Value{units(2047)}},
		{"test", 1, "false", []api.Value{truth(false)}},
		{"test", 1, "true", []api.Value{truth(true)}},
		{"test", 1, "trap3", []api.Value{number(1)}},
		{"test", 1, "trap3", []api.Value{unit}},
	} {
		n := len(row.args)
		gets := ""
		for k := range n {
			gets += fmt.Sprintf("get %d/", k)
		}
		lines := fmt.Sprintf(`.const ["q", "p"]/.const "a"/.const []/.const ["a", "a"]/.const ["%s"]/.func %d %d %d/%s%s/ret/.export f 0`,
			strings.Repeat("k", 33), n, n, max(1, n), gets, row.op)
		paid := int64(n) + row.cost
		if !strings.HasPrefix(row.want, "trap") {
			paid++
		}
		ends(t, lines, store.New(), 5000, fmt.Sprint(row.want, " ", 5000-paid), row.args...)
		ends(t, lines, store.New(), paid, fmt.Sprint(row.want, " 0"), row.args...)
		ends(t, lines, store.New(), paid-1, "spent 0", row.args...)
	}
}

// digest is the text of the Bytes that digest gives.
func digest(v api.Value) string {
	b, _ := wire.Encode(v)
	d := hash.Sum(b)
	return value.Print(text(string(d[:])))
}

// TestP142Plain: const, get, set, pop, jump.
func TestP142Plain(t *testing.T) {
	s := store.New()
	ends(t, `.const [1, {"a": unit}]/.func 0 0 1/const 0/ret/.export f 0`, s, 9, `[1, {"a": unit}] 7`)
	ends(t, ".func 2 2 1/get 1/ret/.export f 0", s, 9, "6 7", number(5), number(6))
	ends(t, ".func 1 3 1/get 2/ret/.export f 0", s, 9, "unit 7", number(5))
	ends(t, ".const 1/.func 1 2 1/const 0/set 1/get 0/set 1/get 1/ret/.export f 0", s, 9, "5 3", number(5))
	ends(t, ".func 2 2 2/get 0/get 1/set 0/set 1/get 0/get 1/sub/ret/.export f 0", s, 99, "3 90", number(2), number(5))
	ends(t, ".const 1/.const 2/.func 0 0 2/const 0/const 1/pop/ret/.export f 0", s, 9, "1 5")
	ends(t, ".const 1/.const 2/.func 0 0 1/jump on/.at back/const 0/ret/.at on/jump back/.export f 0", s, 9, "1 5")
	ends(t, ".func 0 0 0/jump 0/.export f 0", s, 1000000, "spent 0")
}

// TestP142Unless: it asks for a Bool, and goes on at the place, if that is false.
func TestP142Unless(t *testing.T) {
	lines := ".const 1/.const 2/.func 1 1 1/get 0/unless no/const 0/ret/.at no/const 1/ret/.export f 0"
	ends(t, lines, store.New(), 5, "1 0", truth(true))
	ends(t, lines, store.New(), 5, "2 0", truth(false))
	for _, v := range []api.Value{unit, number(0), number(1), text(""), list(), record("")} {
		ends(t, lines, store.New(), 5, "trap3 2", v)
		ends(t, lines, store.New(), 3, "trap3 0", v)
		ends(t, lines, store.New(), 2, "spent 0", v)
	}
	ends(t, ".const false/.func 0 0 1/.at top/const 0/unless top/const 0/ret/.export f 0", store.New(), 999, "spent 0")
	count := ".const 1/.func 1 2 2/const 0/set 1/.at top/get 0/get 1/ge/unless end/get 1/const 0/add/set 1/jump top/.at end/get 1/ret/.export f 0"
	ends(t, count, store.New(), 1000, "11 828", number(10)) // 2; ten times 8, up to unless, and 8; 8; 2
}

// TestP142Calls: arguments in their order, locals of their own, results to the frame around.
func TestP142Calls(t *testing.T) {
	s := store.New()
	ends(t, ".const 7/.const 2/.func 0 0 3/const 0/const 0/const 1/call 1/sub/ret/.func 2 2 2/get 0/get 1/sub/ret/.export f 0", s, 99, "2 80") // 3, 8, 5, 2, 1
	eight := ".func 8 8 9/get 0/get 1/get 2/get 3/get 4/get 5/get 6/get 7/call 1/ret/.func 8 8 8/get 7/get 6/get 5/get 4/get 3/get 2/get 1/get 0/array 8/ret/.export f 0"
	var args []api.Value
	for n := range 8 {
		args = append(args, number(int64(n)))
	}
	ends(t, eight, s, 99, "[7, 6, 5, 4, 3, 2, 1, 0] 63", args...)
	fresh := ".const 1/.func 0 0 1/call 1/pop/call 1/ret/.func 0 2 2/get 1/const 0/set 1/ret/.export f 0"
	ends(t, fresh, s, 99, "unit 73")
	kept := ".const 1/.const 2/.func 0 1 2/const 0/set 0/const 1/call 1/pop/get 0/ret/.func 1 1 1/const 1/set 0/get 0/ret/.export f 0"
	ends(t, kept, s, 99, "1 81")
	inner := ".const 2/.func 0 0 1/call 2/ret/.func 0 0 1/const 0/ret/.func 0 0 1/call 1/ret/.export f 0"
	ends(t, inner, s, 99, "2 79")
	many := ".const 1/.const 0/.func 1 1 2/.at top/get 0/call 1/unless out/get 0/const 0/sub/set 0/jump top/.at out/get 0/ret/.func 1 1 2/get 0/const 1/gt/ret/.export f 0"
	ends(t, many, s, 10000, "0 7580", number(100)) // a hundred calls, one behind the other: each 18 and 6; at last 18 and 2
}

// TestP142Depth: 32 frames may be, the call of one more traps, once it is paid.
func TestP142Depth(t *testing.T) {
	down := ".const 1/.const 0/.func 1 1 2/get 0/const 1/gt/unless end/get 0/const 0/sub/call 0/ret/.at end/const 0/ret/.export f 0"
	ends(t, down, store.New(), 1000, "1 339", number(31)) // 31 calls of 21 each, and a last one of 10
	ends(t, down, store.New(), 1000, "trap4 360", number(32))
	ends(t, down, store.New(), 1000, "trap4 360", number(1000))
	self := ".func 0 0 1/call 0/ret/.export f 0"
	ends(t, self, store.New(), 1000, "trap4 744")
	ends(t, self, store.New(), 256, "trap4 0")
	ends(t, self, store.New(), 255, "spent 0")
	two := ".func 0 0 1/call 1/ret/.func 0 0 1/call 0/ret/.export f 0/.export g 1"
	ends(t, two, store.New(), 1000, "trap4 744")
	save := `.const "k"/.func 0 0 2/const 0/const 0/save/pop/call 0/ret/.export f 0`
	s := store.New()
	ends(t, save, s, 10000, fmt.Sprint("trap4 ", 10000-32*39))
	if s.Len() != 1 {
		t.Errorf("P14.3: what was done ahead of the trap is gone")
	}
}

// TestP142Greatest: the greatest numbers of everything that a module may have.
func TestP142Greatest(t *testing.T) {
	var lines, exports []string
	for n := range 100 {
		lines = append(lines, fmt.Sprint(".const ", n))
	}
	for f := range 24 {
		lines = append(lines, ".func 8 32 40", "const 99", "set 31", "get 31")
		for n := range 39 {
			lines = append(lines, fmt.Sprint("const ", n))
		}
		lines = append(lines, "array 40")
		if f < 23 {
			lines = append(lines, "get 7", "get 6", "get 5", "get 4", "get 3", "get 2", "get 1", "get 0", "call 23", "add")
		}
		lines = append(lines, "ret")
		exports = append(exports, fmt.Sprintf(".export f%02d %d", f, f))
	}
	i := image(t, strings.Join(append(lines, exports...), "/"))
	if l := i.Entries(); len(l) != 24 || !slices.IsSorted(l) || l[23] != "f23" {
		t.Errorf("P14.1: Entries: %v", l)
	}
	o, e := i.Run("f23", make([]api.Value, 8), store.New(), 1000)
	if e != api.OK || o.Kind != api.Returned || len(o.Value.L) != 40 || o.Value.L[0].N != 99 || o.Value.L[39].N != 38 || o.Left != 1000-42-42-1 {
		t.Errorf("P14.2: f23: %s, %d", told(o), e)
	}
	o, e = i.Run("f22", make([]api.Value, 8), store.New(), 1000)
	if e != api.OK || o.Kind != api.Returned || len(o.Value.L) != 80 || o.Value.L[40].N != 99 || o.Value.L[79].N != 38 || o.Left != 1000-84-16-85-84-1 {
		t.Errorf("P14.2: f22: %s, %d", told(o), e)
	}
}

// TestP142LongCode: places that need both bytes, and the last ones that may be.
func TestP142LongCode(t *testing.T) {
	pad := strings.Repeat("jump 0/", 1331)
	for lines, want := range map[string]string{
		".const 5/.func 0 0 1/const 0/jump end/" + pad + "ret/.at end/ret/.export f 0":                                                      "5 97",
		".const false/.const 5/.func 0 0 1/const 0/unless end/" + pad[7:] + "ret/.at end/const 1/ret/.export f 0":                           "5 95",
		".const 5/.func 0 0 1/jump end/" + pad[:7*90] + ".at back/const 0/ret/" + pad[:7*1239] + ".at end/jump back/jump 0/pop/.export f 0": "5 96",
	} {
		m := made(t, lines)
		if n := len(m.Funcs[0].Code); n < 3995 {
			t.Errorf("a code of %d bytes alone", n)
		}
		o, e := loaded(t, m).Run("f", nil, store.New(), 100)
		if e != api.OK || told(o) != want {
			t.Errorf("P14.2: %s .. : %s, %d; want %s", lines[:40], told(o), e, want)
		}
	}
}

// TestP142Dead: code that no way leads to stands in nobody's way.
func TestP142Dead(t *testing.T) {
	var keys []string
	for n := range 41 {
		keys = append(keys, fmt.Sprintf(`"%02d"`, n))
	}
	lines := ".const [" + strings.Join(keys, ", ") + "]/.const 1/.func 0 0 1/jump on/record 0/add/call 1/unless 0/.at on/const 1/ret/array 40/save/.func 8 8 0/jump 0/.export f 0"
	ends(t, lines, store.New(), 9, "1 6")
}

// Each does one of the store's instructions, with its arguments.
const (
	loads  = ".func 1 1 1/get 0/load/ret/.export f 0"
	saves  = ".func 2 2 2/get 0/get 1/save/ret/.export f 0"
	drops  = ".func 1 1 1/get 0/drop/ret/.export f 0"
	afters = ".func 1 1 1/get 0/after/ret/.export f 0"
)

func TestP142StoreKinds(t *testing.T) {
	for _, v := range []api.Value{unit, truth(false), number(7), list(), texts("k"), record(""), record("k", unit)} {
		s := filled(t, api.Entry{Key: "k", Value: units(100)})
		w := weigh(v)
		ends(t, loads, s, 100, fmt.Sprint("trap3 ", 89-w), v)
		ends(t, loads, s, 11+w, "trap3 0", v)
		ends(t, loads, s, 10+w, "spent 0", v)
		ends(t, saves, s, 100, fmt.Sprint("trap3 ", 76-2*w), v, unit)
		ends(t, drops, s, 100, fmt.Sprint("trap3 ", 89-w), v)
		ends(t, afters, s, 100, fmt.Sprint("trap3 ", 89-w), v)
		if s.Len() != 1 {
			t.Errorf("P14.2: a trap has changed the store: %v", s.Entries())
		}
	}
}

func TestP142StoreKeys(t *testing.T) {
	for _, count := range []int{0, 1, 2, 31, 32, 33, 34, 300, 2047} {
		key, s, w := longText(count), store.New(), int64(count)+1
		may := count >= 1 && count <= 32
		want := func(given string, left int64) string {
			if may {
				return fmt.Sprint(given, " ", left-1)
			}
			return fmt.Sprint("trap9 ", left)
		}
		ends(t, loads, s, 9000, want("unit", 8989-w), key)
		ends(t, drops, s, 9000, want("false", 8989-w), key)
		ends(t, saves, s, 9000, want("unit", 8976-2*w), key, unit)
		if may != (s.Len() == 1) {
			t.Errorf("P14.2: save under %d bytes: %v", count, s.Entries())
		}
		after := fmt.Sprint("unit ", 8989-w-1)
		if count > 32 {
			after = fmt.Sprint("trap9 ", 8989-w)
		}
		ends(t, afters, s, 9000, after, key)
	}
}

func TestP142Load(t *testing.T) {
	s := filled(t, api.Entry{Key: "a", Value: unit}, api.Entry{Key: "b", Value: units(3)}, api.Entry{Key: "c", Value: longText(2047)})
	ends(t, loads, s, 100, "unit 85", text("a")) // 2 for the key, 1 for the Unit that stands there
	ends(t, loads, s, 100, "unit 86", text("d"))
	ends(t, loads, s, 100, "[unit, unit, unit] 82", text("b"))
	ends(t, loads, s, 17, "spent 0", text("b"))
	ends(t, loads, s, 16, "spent 0", text("b"))
	ends(t, loads, s, 18, "[unit, unit, unit] 0", text("b"))
	ends(t, loads, s, 2060, "spent 0", text("c"))
	if o, e := image(t, loads).Run("f", []api.Value{text("c")}, s, 2062); e != api.OK || o.Left != 0 || !same(o.Value, longText(2047)) {
		t.Errorf("P14.2: load of the heaviest: %s, %d", told(o), e)
	}
	if s.Len() != 3 {
		t.Errorf("P14.2: load has changed the store")
	}
}

func TestP142SaveAndDrop(t *testing.T) {
	s := store.New()
	ends(t, saves, s, 100, "unit 71", text("k"), number(1)) // 2, 26, 1
	ends(t, saves, s, 100, "unit 65", text("k"), text("abc"))
	if !sameEntries(s.Entries(), []api.Entry{{Key: "k", Value: text("abc")}}) {
		t.Errorf("P14.2: save: %v", s.Entries())
	}
	ends(t, saves, s, 27, "spent 0", text("k"), number(5))
	if !sameEntries(s.Entries(), []api.Entry{{Key: "k", Value: text("abc")}}) {
		t.Errorf("P14.2: a save that was not paid is done: %v", s.Entries())
	}
	ends(t, saves, s, 28, "spent 0", text("k"), number(5))
	if !sameEntries(s.Entries(), []api.Entry{{Key: "k", Value: number(5)}}) {
		t.Errorf("P14.3: a save that was paid ahead of being spent is gone: %v", s.Entries())
	}
	ends(t, drops, s, 12, "spent 0", text("k"))
	if s.Len() != 1 {
		t.Errorf("P14.2: a drop that was not paid is done")
	}
	ends(t, drops, s, 13, "spent 0", text("k"))
	if s.Len() != 0 {
		t.Errorf("P14.3: a drop that was paid is not done")
	}
	ends(t, saves, s, 100, "unit 71", text("k"), number(1))
	ends(t, drops, s, 14, "true 0", text("k"))
	ends(t, drops, s, 14, "false 0", text("k"))
}

func TestP142After(t *testing.T) {
	s := filled(t, api.Entry{Key: "a"}, api.Entry{Key: "b\x00"}, api.Entry{Key: "b\xff"}, api.Entry{Key: strings.Repeat("x", 32)})
	long := value.Print(longText(32))
	for key, want := range map[string]string{"": `"a"`, "a": `"b\x00"`, "b": `"b\x00"`, "b\x00": `"b\xff"`, "b\xff": long, "x": long,
		strings.Repeat("x", 32): "unit", "y": "unit", "\x00": `"a"`, "\xff": "unit"} {
		ends(t, afters, s, 100, fmt.Sprint(want, " ", 87-len(key)), text(key))
	}
}

// TestP142Full: what the store refuses is a trap, and changes nothing; what takes the place of something may be.
func TestP142Full(t *testing.T) {
	var l []api.Entry
	for n := range 128 {
		l = append(l, api.Entry{Key: fmt.Sprintf("%03d", n)})
	}
	s := filled(t, l...)
	ends(t, saves, s, 100, "trap9 68", text("new"), unit)
	ends(t, saves, s, 100, "unit 65", text("127"), list(unit))
	if s.Len() != 128 {
		t.Errorf("P14.2: %d entries", s.Len())
	}
	heavy := store.New()
	for n := range 15 {
		heavy.Put(fmt.Sprintf("%02d", n), longText(2047))
	}
	room := 32768 - heavy.Weight()
	ends(t, saves, heavy, 9999, fmt.Sprint("trap9 ", 9999-28-2*(room-2)), text("zz"), longText(room-3))
	ends(t, saves, heavy, 9999, fmt.Sprint("unit ", 9999-29-2*(room-3)), text("zz"), longText(room-4))
	if heavy.Weight() != 32768 {
		t.Errorf("P14.2: a weight of %d", heavy.Weight())
	}
	ends(t, saves, heavy, 9999, "trap9 9969", text("a"), longText(1))
	ends(t, saves, heavy, 9999, "unit 9968", text("00"), unit)
}

// TestP142Spent: with each limit that is too small the run stops ahead of what it can't pay, with nothing left.
func TestP142Spent(t *testing.T) {
	lines := `.const "a"/.const "b"/.const "c"/.func 0 0 2/const 0/const 0/save/pop/const 1/const 1/save/pop/const 0/drop/pop/const 2/const 2/save/ret/.export f 0`
	i := image(t, lines)
	for limit := range int64(115) {
		s := store.New()
		o, e := i.Run("f", nil, s, limit)
		want, keys := "spent 0", ""
		switch {
		case limit >= 107: // 1 and 1, 28, 1; twice; 1, 12, 1; 1 and 1, 28; 1
			want, keys = fmt.Sprint("unit ", limit-107), "bc"
		case limit >= 106:
			keys = "bc"
		case limit >= 75:
			keys = "b"
		case limit >= 61:
			keys = "ab"
		case limit >= 30:
			keys = "a"
		}
		got := ""
		for _, x := range s.Entries() {
			got += x.Key
		}
		if e != api.OK || told(o) != want || got != keys {
			t.Errorf("P14.2: with %d: %s, %d, the store has %q; want %s, %q", limit, told(o), e, got, want, keys)
		}
	}
}

// TestP142Long: a run of as many steps as may be comes to its end.
func TestP142Long(t *testing.T) {
	lines := ".const 0/.const 1/.func 0 1 2/const 0/set 0/.at top/get 0/const 1/add/set 0/jump top/.export f 0"
	ends(t, lines, store.New(), 1000000, "spent 0")
	ends(t, ".func 1 1 1/.at top/get 0/set 0/jump top/.export f 0", store.New(), 1000000, "spent 0", units(2047))
}

// TestP143Stays: what the run has done stays however it has ended; the checkpoints are as they were.
func TestP143Stays(t *testing.T) {
	start := `.const "a"/.const 1/.const "x"/.func 0 0 2/const 0/const 1/save/pop/const 2/drop/pop/`
	for end, kind := range map[string]int{"const 1/ret": api.Returned, "const 1/abort/ret": api.Trapped, ".at top/jump top": api.Spent} {
		i := image(t, start+end+"/.export f 0")
		for open := range 4 {
			s := filled(t, api.Entry{Key: "x", Value: number(3)})
			for range open {
				s.Checkpoint()
			}
			o, e := i.Run("f", nil, s, 200)
			if e != api.OK || o.Kind != kind || s.Open() != open || !sameEntries(s.Entries(), []api.Entry{{Key: "a", Value: number(1)}}) {
				t.Errorf("P14.3: %s: %s, %d; %d open, want %d; %v", end, told(o), e, s.Open(), open, s.Entries())
			}
			for n := range open {
				if n < open-1 {
					s.Commit()
				} else if e := s.Rollback(); e != api.OK || !sameEntries(s.Entries(), []api.Entry{{Key: "x", Value: number(3)}}) {
					t.Errorf("P14.3: behind a Rollback: %d, %v", e, s.Entries())
				}
			}
		}
	}
}

// held are all lists' and texts' memories of a value.
func held(v api.Value) []unsafe.Pointer {
	var out []unsafe.Pointer
	if cap(v.L) > 0 {
		out = append(out, unsafe.Pointer(unsafe.SliceData(v.L)))
	}
	if cap(v.K) > 0 {
		out = append(out, unsafe.Pointer(unsafe.SliceData(v.K)))
	}
	for _, s := range append([]string{v.S}, v.K...) {
		if s != "" {
			out = append(out, unsafe.Pointer(unsafe.StringData(s)))
		}
	}
	for _, x := range v.L {
		out = append(out, held(x)...)
	}
	return out
}

// scribble writes into all lists of a value.
func scribble(v api.Value) {
	for k, x := range v.L[:cap(v.L)] {
		scribble(x)
		v.L[:cap(v.L)][k] = number(-99)
	}
	for k := range v.K[:cap(v.K)] {
		v.K[:cap(v.K)][k] = "scribbled"
	}
}

// TestP143NewMemory: what is answered is new memory, whatever it came from.
func TestP143NewMemory(t *testing.T) {
	rich := func() api.Value {
		return list(text("abc"), record("key other", list(number(1)), text("de")), list(), record(""))
	}
	m := api.Module{Consts: []api.Value{rich(), text("k")}, Exports: []api.Export{{Name: "c"}, {Name: "g", Func: 1}, {Name: "l", Func: 2}, {Name: "p", Func: 3}}}
	m.Funcs = []api.Func{
		{Params: 1, Locals: 1, Stack: 1, Code: "\x01\x00\x09"},                 // the constant
		{Params: 1, Locals: 1, Stack: 1, Code: "\x02\x00\x09"},                 // the argument
		{Params: 1, Locals: 1, Stack: 1, Code: "\x01\x01\x26\x09"},             // what is loaded
		{Params: 1, Locals: 1, Stack: 2, Code: "\x02\x00\x02\x00\x17\x02\x09"}, // the argument twice, in an array
	}
	i := loaded(t, m)
	arg := rich()
	s := filled(t, api.Entry{Key: "k", Value: rich()})
	for range 3 {
		for _, name := range i.Entries() {
			want := rich()
			if name == "p" {
				want = list(rich(), rich())
			}
			o, e := i.Run(name, []api.Value{arg}, s, 1000)
			if e != api.OK || o.Kind != api.Returned || !same(o.Value, want) {
				t.Fatalf("P14.3: %s: %s, %d", name, told(o), e)
			}
			all := held(o.Value)
			for k, p := range all {
				if slices.Contains(all[:k], p) {
					t.Errorf("R3: %s: the answer holds one memory twice", name)
				}
				if slices.Contains(held(arg), p) || slices.Contains(held(m.Consts[0]), p) {
					t.Errorf("P14.3: %s: the answer shares memory with what was handed in", name)
				}
			}
			scribble(o.Value)
		}
	}
	if !same(arg, rich()) || !same(m.Consts[0], rich()) || !sameEntries(s.Entries(), []api.Entry{{Key: "k", Value: rich()}}) {
		t.Errorf("P14.3: what was handed in is changed")
	}
}

// TestP143Args: arguments stay as they are, spare room too, and are not kept.
func TestP143Args(t *testing.T) {
	lines := `.const "k"/.const 1/.func 2 2 3/get 0/get 1/push/set 0/get 0/const 1/get 0/change/pop/const 1/set 1/const 0/get 0/save/ret/.export f 0`
	i := image(t, lines)
	spare := []api.Value{number(1), text("a"), number(77)}
	args := []api.Value{{Kind: api.Array, L: spare[:2]}, number(2), number(78)}
	s := store.New()
	if o, e := i.Run("f", args[:2], s, 1000); e != api.OK || o.Kind != api.Returned {
		t.Fatalf("%s, %d", told(o), e)
	}
	if !same(list(args...), list(list(number(1), text("a")), number(2), number(78))) || !same(spare[2], number(77)) {
		t.Errorf("P14.3: the arguments are changed: %v, %v", args, spare)
	}
	spare[0] = unit
	want := []api.Entry{{Key: "k", Value: list(number(1), text("a"), number(2))}}
	if !sameEntries(s.Entries(), want) {
		t.Errorf("R3: the store keeps an argument: %v", s.Entries())
	}
}

// TestP143Apart: runs of one image have nothing in common but the store.
func TestP143Apart(t *testing.T) {
	lines := `.const "n"/.const 1/.const []/.func 1 3 3/const 2/set 1/get 1/get 0/push/set 1/const 0/load/set 2/const 0/get 2/kind/const 1/eq/pop/get 1/save/pop/get 1/ret/.export f 0`
	i := image(t, lines)
	var all sync.WaitGroup
	bad := make(chan string, 64)
	for n := range 64 {
		all.Go(func() {
			s := store.New()
			for k := range 50 {
				arg := number(int64(100*n + k))
				o, e := i.Run("f", []api.Value{arg}, s, 1000)
				if e != api.OK || !same(o.Value, list(arg)) || s.Len() != 1 || len(i.Entries()) != 1 {
					bad <- fmt.Sprint(told(o), " ", e)
					return
				}
			}
		})
	}
	all.Wait()
	close(bad)
	for s := range bad {
		t.Errorf("P14.3: side by side: %s", s)
	}
	one, two := store.New(), store.New()
	count := `.const "n"/.const 1/.func 0 1 3/const 0/load/set 0/get 0/kind/const 1/gt/unless first/const 0/get 0/const 1/add/save/ret/.at first/const 0/const 1/save/ret/.export f 0`
	c := image(t, count)
	for range 3 {
		c.Run("f", nil, one, 1000)
	}
	c.Run("f", nil, two, 1000)
	if v, _ := one.Get("n"); !same(v, number(3)) {
		t.Errorf("P14.3: a store's runs: %v", v)
	}
	if v, _ := two.Get("n"); !same(v, number(1)) {
		t.Errorf("P14.3: another store's run: %v", v)
	}
}

// TestR3Empty: nil and empty lists are one.
func TestR3Empty(t *testing.T) {
	i := image(t, ".func 0 0 1/array 0/ret/.func 1 1 1/get 0/ret/.export f 0/.export g 1")
	for _, args := range [][]api.Value{nil, {}} {
		if o, e := i.Run("f", args, store.New(), 9); e != api.OK || told(o) != "[] 6" {
			t.Errorf("R3: %s, %d", told(o), e)
		}
	}
	for _, v := range []api.Value{{Kind: api.Array}, {Kind: api.Array, L: []api.Value{}, K: []string{}}} {
		if o, e := i.Run("g", []api.Value{v}, store.New(), 9); e != api.OK || told(o) != "[] 7" {
			t.Errorf("R3: %s, %d", told(o), e)
		}
	}
	empty := api.Module{Consts: []api.Value{}, Funcs: []api.Func{}, Exports: []api.Export{}}
	if !module.Right(empty) || len(loaded(t, empty).Entries()) != 0 {
		t.Errorf("R3: a module of empty lists")
	}
}
