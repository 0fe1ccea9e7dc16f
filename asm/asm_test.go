package asm_test

import (
	"encoding/hex"
	"fmt"
	"math"
	"math/rand"
	"regexp"
	"slices"
	"strconv"
	"strings"
	"testing"
	"unsafe"

	"scruple/api"
	"scruple/asm"
	"scruple/module"
	"scruple/value"
)

var unit = api.Value{}

func truth(n int64) api.Value { return api.Value{Kind: api.Bool, N: n} }

func number(n int64) api.Value { return api.Value{Kind: api.Int, N: n} }

func text(s string) api.Value { return api.Value{Kind: api.Bytes, S: s} }

func list(l ...api.Value) api.Value { return api.Value{Kind: api.Array, L: l} }

// record is one of keys, parted by spaces, and their values, laid down as they are told.
func record(keys string, l ...api.Value) api.Value {
	return api.Value{Kind: api.Record, K: strings.Fields(keys), L: l}
}

// arrays is x within so many arrays, records within so many records.
func arrays(count int, x api.Value) api.Value {
	for range count {
		x = list(x)
	}
	return x
}

func records(count int, x api.Value) api.Value {
	for range count {
		x = record("k", x)
	}
	return x
}

// units is an array of so many units: its weight is one more.
func units(count int) api.Value { return list(make([]api.Value, count)...) }

// heavy is a value of that weight.
func heavy(weight int) api.Value { return text(strings.Repeat("h", weight-1)) }

// every are all bytes there are.
func every() string {
	b := make([]byte, 256)
	for i := range b {
		b[i] = byte(i)
	}
	return string(b)
}

// rights are right values of every kind, the deepest and the heaviest ones among them.
func rights() []api.Value {
	return []api.Value{
		unit, truth(0), truth(1), number(0), number(1), number(-1), number(10), number(math.MinInt64), number(math.MaxInt64), number(math.MaxInt64 - 1),
		text(""), text("a"), text("\x00\xff"), text("a  b"), text(" "), text("  a "), text(`"`), text(`\`), text(`\x41`), text(`a"b\c`), text("\n"), text("é"), text("]"), text(", "), text(";"),
		text(".const 5"), text("unit"), text("\\"), text("\x7f\x1f\x80~ "), text(every()), heavy(2048), text(strings.Repeat("\x00", 2047)),
		list(), list(unit), list(unit, unit), list(list()), list(list(), list()), list(number(1), text("ab"), list(truth(1))), units(2047), arrays(7, unit), arrays(7, list()),
		record(""), record("a", number(1)), record("a b", list(), record("c", text("d"))), records(7, unit), list(record(""), record("x", unit)),
		{Kind: api.Record, K: []string{""}, L: []api.Value{unit}}, {Kind: api.Record, K: []string{"", " ", "  ", `"`, "\\", "\xff"}, L: units(6).L},
		record(strings.Repeat("k", 32), unit), record("a", heavy(2045)), record("A B _ a aa ab b", units(7).L...),
		{L: []api.Value{}, K: []string{}}, {Kind: api.Array, L: []api.Value{}, K: []string{}},
	}
}

// wrongs are values that are not right, though they could be written as text.
func wrongs() []api.Value {
	return []api.Value{
		record("b a", unit, unit), record("a a", unit, unit), record(strings.Repeat("k", 33), unit), record("a b a", unit, unit, unit), record("a B", unit, unit),
		heavy(2049), units(2048), list(heavy(2048)), arrays(8, unit), arrays(8, list()), records(8, unit), arrays(100, unit), arrays(5000, unit), records(3000, unit),
		list(record("b a", unit, unit)), record("a", arrays(7, unit)), text(strings.Repeat("\x00", 2048)), record("a", heavy(2046)),
	}
}

func fn(params, locals, stack int, code string) api.Func {
	return api.Func{Params: params, Locals: locals, Stack: stack, Code: code}
}

// as is a name for the function of that number.
func as(name string, f int) api.Export { return api.Export{Name: name, Func: f} }

func consts(l ...api.Value) api.Module { return api.Module{Consts: l} }

func funcs(l ...api.Func) api.Module { return api.Module{Funcs: l} }

func coded(code string) api.Module { return funcs(fn(0, 0, 0, code)) }

// exports is a module of two functions and these names.
func exports(l ...api.Export) api.Module {
	return api.Module{Funcs: []api.Func{{}, {Code: "\x09"}}, Exports: l}
}

// letters is a name of so many bytes.
func letters(count int) string { return strings.Repeat("n", count) }

// one is the chapter's first example, some a module with more than one of each thing.
func one() api.Module {
	return api.Module{Consts: []api.Value{number(5)}, Funcs: []api.Func{fn(0, 0, 1, "\x01\x00\x09")}, Exports: []api.Export{as("f", 0)}}
}

func some() api.Module {
	return api.Module{
		Consts:  []api.Value{number(300), list(text("a b"), record("k l", unit, list())), truth(1), text("\n\"")},
		Funcs:   []api.Func{fn(1, 2, 3, "\x02\x00\x06\x00\x08\x05\x0f\x9f\x0a\x09"), fn(0, 0, 0, ""), fn(8, 32, 40, "\x00\xff")},
		Exports: []api.Export{as("_", 2), as("a", 1), as("ab", 1), as("b1", 0)},
	}
}

// operations are their names, by their numbers from 1 on; tops how great an operand may be, of those that have one.
var operations = strings.Fields("const get set pop jump unless test call ret add sub mul div rem neg not eq ne lt le gt ge array record index field len push change slice with without keys has kind digest abort load save drop after")

var tops = map[string]int{"const": 99, "get": 31, "set": 31, "jump": 3999, "unless": 3999, "call": 23, "array": 40, "record": 99, "field": 99}

// laid are an instruction's bytes.
func laid(name string, a int) string {
	b := []byte{byte(1 + slices.Index(operations, name))}
	if name == "jump" || name == "unless" {
		b = append(b, byte(a/256))
	}
	if _, has := tops[name]; has {
		b = append(b, byte(a%256))
	}
	return string(b)
}

// goods are right modules, at all limits.
func goods() map[string]api.Module {
	var all strings.Builder
	for _, name := range operations {
		all.WriteString(laid(name, 0) + laid(name, tops[name]))
	}
	out := map[string]api.Module{
		"nothing": {}, "empty lists": {Consts: []api.Value{}, Funcs: []api.Func{}, Exports: []api.Export{}},
		"one": one(), "some": some(), "all operations": coded(all.String()), "every byte": coded(every()),
		"100 constants": consts(make([]api.Value, 100)...), "24 functions": funcs(make([]api.Func, 24)...),
		"the most of all": funcs(fn(8, 32, 40, strings.Repeat("\x04", 4000)), fn(8, 8, 0, strings.Repeat("\x00", 4000))),
		"a long name":     exports(as(letters(19), 0), as(letters(20), 1)), "names": exports(as("A", 0), as("Z9", 1), as("_", 0), as("jump", 1), as("unit", 0)),
		"code for one": api.Module{Funcs: []api.Func{{}, {Code: "\x09"}, {}}}, "code for the last": api.Module{Funcs: []api.Func{{}, {}, {Code: "\x00"}}},
		"code for both": api.Module{Funcs: []api.Func{{Code: "\x00"}, {Code: "\x09"}}},
	}
	for i, v := range rights() {
		out[fmt.Sprint("value ", i)] = consts(v)
		out[fmt.Sprint("value ", i, " between")] = consts(unit, v, number(7))
	}
	var l []api.Export
	for i := range 24 {
		l = append(l, as(fmt.Sprintf("n%02d", i), i))
	}
	out["24 exports"] = api.Module{Funcs: make([]api.Func, 24), Exports: l}
	return out
}

// bads are modules that are not right, though most of them could be told as lines.
func bads() map[string]api.Module {
	out := map[string]api.Module{
		"101 constants": consts(make([]api.Value, 101)...), "25 functions": funcs(make([]api.Func, 25)...),
		"params": funcs(fn(9, 9, 0, "")), "few locals": funcs(fn(2, 1, 0, "")), "locals": funcs(fn(0, 33, 0, "")), "stack": funcs(fn(0, 0, 41, "")),
		"below 0": funcs(fn(-1, 0, 0, "")), "stack below 0": funcs(fn(0, 0, -1, "")), "code": coded(strings.Repeat("\x04", 4001)), "bytes": coded(strings.Repeat("\x00", 4001)),
		"a second one": funcs(api.Func{}, fn(0, 0, 41, "")), "no such function": exports(as("f", 2)), "a function below 0": exports(as("f", -1)),
		"no function": {Exports: []api.Export{as("f", 0)}}, "twice": exports(as("a", 0), as("a", 1)), "falling": exports(as("b", 0), as("a", 0)),
		"no name": exports(as("", 0)), "a digit": exports(as("1", 0)), "a long name": exports(as(letters(21), 0)), "a blank": exports(as("a b", 0)), "a line": exports(as("a\n", 0)),
		"kind": consts(api.Value{Kind: 6}), "truth": consts(truth(2)), "unit": consts(api.Value{N: 1}), "keys": consts(api.Value{Kind: api.Record, K: []string{""}}),
	}
	for i, v := range wrongs() {
		out[fmt.Sprint("value ", i)] = consts(v)
		out[fmt.Sprint("value ", i, " behind")] = consts(unit, v)
	}
	var l []api.Export
	for i := range 25 {
		l = append(l, as(fmt.Sprintf("n%02d", i), 0))
	}
	out["25 exports"] = api.Module{Funcs: make([]api.Func, 24), Exports: l}
	var much []api.Func
	for range 17 {
		much = append(much, fn(0, 0, 0, strings.Repeat("\x04", 4000)))
	}
	out["65537 bytes and more"] = funcs(much...)
	return out
}

// show is a second reading of chapter 3: a value's text, whether it is right or not.
func show(v api.Value) string {
	var parts []string
	for i, x := range v.L {
		s := show(x)
		if v.Kind == api.Record {
			s = show(text(v.K[i])) + ": " + s
		}
		parts = append(parts, s)
	}
	switch v.Kind {
	case api.Unit:
		return "unit"
	case api.Bool:
		return strconv.FormatBool(v.N == 1)
	case api.Int:
		return fmt.Sprint(v.N)
	case api.Array:
		return "[" + strings.Join(parts, ", ") + "]"
	case api.Record:
		return "{" + strings.Join(parts, ", ") + "}"
	}
	out := []byte(`"`)
	for _, c := range []byte(v.S) {
		switch {
		case c == '"' || c == '\\':
			out = append(out, '\\', c)
		case c >= 0x20 && c < 0x7f:
			out = append(out, c)
		default:
			out = fmt.Appendf(out, `\x%02x`, c)
		}
	}
	return string(out) + `"`
}

// lines are the instructions of code, each as a line; false: it is not made of these.
func lines(code string) (string, bool) {
	var out strings.Builder
	for at := 0; at < len(code); {
		op := int(code[at])
		if op < 1 || op > len(operations) {
			return "", false
		}
		name := operations[op-1]
		top, has := tops[name]
		size := len(laid(name, 0))
		if at+size > len(code) {
			return "", false
		}
		a := 0
		for _, c := range []byte(code[at+1 : at+size]) {
			a = a*256 + int(c)
		}
		if a > top {
			return "", false
		}
		if has {
			name += " " + fmt.Sprint(a)
		}
		out.WriteString(name + "\n")
		at += size
	}
	return out.String(), true
}

// told is a second reading of P10.1: a module's text, whether it is right or not, of any length.
func told(m api.Module) string {
	var out strings.Builder
	for _, v := range m.Consts {
		out.WriteString(".const " + show(v) + "\n")
	}
	for _, f := range m.Funcs {
		fmt.Fprintf(&out, ".func %d %d %d\n", f.Params, f.Locals, f.Stack)
		if s, ok := lines(f.Code); ok {
			out.WriteString(s)
		} else {
			fmt.Fprintf(&out, ".bytes %x\n", f.Code)
		}
	}
	for _, x := range m.Exports {
		fmt.Fprintf(&out, ".export %s %d\n", x.Name, x.Func)
	}
	return out.String()
}

// same: have two values the same, nil and empty lists being one?
func same(a, b api.Value) bool {
	return a.Kind == b.Kind && a.N == b.N && a.S == b.S && slices.Equal(a.K, b.K) && slices.EqualFunc(a.L, b.L, same)
}

func sameModule(a, b api.Module) bool {
	return slices.EqualFunc(a.Consts, b.Consts, same) && slices.Equal(a.Funcs, b.Funcs) && slices.Equal(a.Exports, b.Exports)
}

// none: is it the zero Module?
func none(m api.Module) bool { return len(m.Consts)+len(m.Funcs)+len(m.Exports) == 0 }

// printed is what Print writes of a module that it must take.
func printed(t *testing.T, m api.Module) string {
	t.Helper()
	s, e := asm.Print(m)
	if e != api.OK {
		t.Fatalf("Print: %v", e)
	}
	return s
}

// parsed is what Parse reads of a text that it must take.
func parsed(t *testing.T, s string) api.Module {
	t.Helper()
	m, line, e := asm.Parse(s)
	if e != api.OK || line != 0 {
		t.Fatalf("Parse of %.80q: %d, %v", s, line, e)
	}
	return m
}

// faulty: is this what Parse answers?
func faulty(t *testing.T, s string, line int, want api.Errno) {
	t.Helper()
	if m, n, e := asm.Parse(s); !none(m) || n != line || e != want {
		t.Errorf("%.80q: Parse answers %d, %v, not %d, %v", s, n, e, line, want)
	}
}

// read: is this what Parse makes of a text?
func read(t *testing.T, s string, want api.Module) {
	t.Helper()
	if m, line, e := asm.Parse(s); line != 0 || e != api.OK || !sameModule(m, want) {
		t.Errorf("%.80q: Parse answers %.80v, %d, %v, not %.80v", s, m, line, e, want)
	}
}

// row is a text of which the lines are told with / between.
func row(s string) string { return strings.ReplaceAll(s, "/", "\n") }

func TestExamples(t *testing.T) {
	first := row(".const 5/.func 0 0 1/const 0/ret/.export f 0")
	read(t, first, one())
	read(t, row(".func 1 1 2/ .at top/get 0/unless end/jump top/.at end/.bytes 2a00"), funcs(fn(1, 1, 2, "\x02\x00\x06\x00\x08\x05\x00\x00\x2a\x00")))
	for _, s := range []string{"", "; x", " ", "     "} {
		read(t, s, api.Module{})
	}
	for s, line := range map[string]int{
		"ret": 1, ".func 0 0 00": 1, ".func 0 0": 1, ".func 0 0 1/get 32": 2, ".func 0 0 1/pop 1": 2, ".const [1,2]": 1, ".const 05": 1,
	} {
		faulty(t, row(s), line, api.ErrAsmLine)
	}
	for s, line := range map[string]int{".func 0 0 1/jump x/.func 0 0 1/.at x": 2, ".func 0 0 41": 0, ".export f 0": 0} {
		faulty(t, row(s), line, api.ErrAsmForm)
	}
	if s := printed(t, parsed(t, first)); s != first+"\n" {
		t.Errorf("Print: %q", s)
	}
}

// The document's examples of the whole, as far as they are this layer's.
func TestExamplesOfTheWhole(t *testing.T) {
	s := row(".const 1/.const unit/.func 1 1 2/get 0/const 0/add/ret/const 1/ret/.export f 0/")
	m := api.Module{
		Consts: []api.Value{number(1), unit}, Funcs: []api.Func{fn(1, 1, 2, "\x02\x00\x01\x00\x0a\x09\x01\x01\x09")},
		Exports: []api.Export{as("f", 0)},
	}
	read(t, s, m)
	if got := printed(t, m); got != s {
		t.Errorf("Print: %q", got)
	}
	read(t, row(".func 0 0 0/add/ret"), coded("\x0a\x09"))
	// The example of chapter 24.
	b, e := module.Encode(parsed(t, row(".const 7/.func 0 0 1/const 0/ret/.export f 0/")))
	if hex.EncodeToString(b) != "53434d31010301030e02080100000103010009030401016600" || e != api.OK {
		t.Errorf("Encode: %x, %v", b, e)
	}
}

func TestP101Print(t *testing.T) {
	for what, m := range goods() {
		if got := printed(t, m); got != told(m) {
			t.Errorf("%s: Print is %.80q, not %.80q", what, got, told(m))
		}
	}
	want := row(".const 300/.const [\"a b\", {\"k\": unit, \"l\": []}]/.const true/.const \"\\x0a\\\"\"/.func 1 2 3/get 0/unless 8/jump 3999/add/ret/.func 0 0 0/.func 8 32 40/.bytes 00ff/.export _ 2/.export a 1/.export ab 1/.export b1 0/")
	if got := printed(t, some()); got != want {
		t.Errorf("Print is %q, not %q", got, want)
	}
}

// Each operation, with each operand that it may have, and those that it may not.
func TestP101Operations(t *testing.T) {
	for i, name := range operations {
		top, has := tops[name]
		for a := 0; a <= top+2 && (has || a == 0); a++ {
			want := fmt.Sprintf(".func 0 0 0\n%s %d\n", name, a)
			if !has {
				want = ".func 0 0 0\n" + name + "\n"
			}
			if a > top {
				want = fmt.Sprintf(".func 0 0 0\n.bytes %x\n", laid(name, a))
			}
			if got := printed(t, coded(laid(name, a))); got != want {
				t.Errorf("operation %d: Print is %q, not %q", i+1, got, want)
			}
		}
	}
}

// Code that is not made of instructions is told by its bytes, all of it.
func TestP101Bytes(t *testing.T) {
	for code, digits := range map[string]string{
		"\x00": "00", "\x2a": "2a", "\xff": "ff", "\x01": "01", "\x05\x00": "0500", "\x01\x64": "0164", "\x02\x20": "0220", "\x05\x0f\xa0": "050fa0",
		"\x04\x04\x00": "040400", "\x04\x01": "0401", "\x17\x29\x04": "172904", "\x08\x18": "0818", "\x04\xab\xcd\xef": "04abcdef",
	} {
		if got := printed(t, coded(code)); got != ".func 0 0 0\n.bytes "+digits+"\n" {
			t.Errorf("%x: Print is %q", code, got)
		}
		read(t, ".func 0 0 0\n.bytes "+digits, coded(code))
	}
	for c := range 256 {
		for d := range 256 {
			m := coded(string([]byte{byte(c), byte(d)}))
			if got := printed(t, m); got != told(m) {
				t.Fatalf("%x %x: Print is %q, not %q", c, d, got, told(m))
			}
		}
	}
}

func TestP101Refused(t *testing.T) {
	for what, m := range bads() {
		if s, e := asm.Print(m); s != "" || e != api.ErrAsmForm {
			t.Errorf("%s: Print answers %.80q, %v", what, s, e)
		}
	}
}

// large are right modules whose text has just so many bytes, some 65536: each meets its end elsewhere.
func large(size int) map[string]api.Module {
	digests := strings.Repeat("\x24", 4000) // each of them a line of seven bytes
	full := fn(0, 0, 0, digests)
	out := map[string]api.Module{
		"constants":    consts(slices.Repeat([]api.Value{text(strings.Repeat("\x00", 2000))}, 8)...),
		"instructions": {Funcs: []api.Func{full, full}},
		"bytes":        {Funcs: slices.Repeat([]api.Func{fn(0, 0, 0, strings.Repeat("\x00", 4000))}, 8)},
		"exports":      {Funcs: []api.Func{full, full}, Exports: []api.Export{as("a", 0), as("b", 1)}},
	}
	for what, m := range out {
		m.Consts = append(slices.Clone(m.Consts), slices.Repeat([]api.Value{heavy(2001)}, (size-len(told(m)))/2010)...)
		m.Consts = append(m.Consts, heavy(1))
		m.Consts[len(m.Consts)-1] = heavy(1 + size - len(told(m)))
		if len(told(m)) != size || !module.Right(m) {
			panic("a module of another length")
		}
		if what == "constants" { // the last line goes beyond the end
			slices.Reverse(m.Consts)
		}
		out[what] = m
	}
	return out
}

func TestP101Long(t *testing.T) {
	for size := 65525; size <= 65545; size++ {
		for what, m := range large(size) {
			s, e := asm.Print(m)
			if size <= 65536 && (e != api.OK || s != told(m)) || size > 65536 && (e != api.ErrAsmLong || s != "") {
				t.Errorf("%s: Print of %d bytes: %d, %v", what, size, len(s), e)
			}
		}
	}
	m := funcs(slices.Repeat([]api.Func{fn(0, 0, 0, strings.Repeat("\x24", 4000))}, 16)...)
	if s, e := asm.Print(m); s != "" || e != api.ErrAsmLong {
		t.Errorf("Print of %d bytes: %d, %v", len(told(m)), len(s), e)
	}
	// What is not right is told ahead of what is too long.
	m.Exports = []api.Export{as("f", 16)}
	if s, e := asm.Print(m); s != "" || e != api.ErrAsmForm {
		t.Errorf("Print of what is not right, and long: %d, %v", len(s), e)
	}
}

func TestP102Parse(t *testing.T) {
	for what, m := range goods() {
		if got, line, e := asm.Parse(told(m)); line != 0 || e != api.OK || !sameModule(got, m) {
			t.Errorf("%s: Parse answers %d, %v", what, line, e)
		}
		read(t, strings.TrimSuffix(told(m), "\n"), m)
	}
}

func TestP102Long(t *testing.T) {
	for size := 65525; size <= 65545; size++ {
		for what, m := range large(size) {
			got, line, e := asm.Parse(told(m))
			if size <= 65536 && (e != api.OK || !sameModule(got, m)) || size > 65536 && (e != api.ErrAsmLong || !none(got)) || line != 0 {
				t.Errorf("%s: Parse of %d bytes: %d, %v", what, size, line, e)
			}
		}
	}
	for _, s := range []string{" ", "\n", ";", "x", "x\n", "\x00", ".func 0 0 41\n"} {
		faulty(t, strings.Repeat(s, 65537), 0, api.ErrAsmLong)
		faulty(t, strings.Repeat(s, 65536)[:65536]+"\n", 0, api.ErrAsmLong)
	}
	for _, s := range []string{" ", "\n", ";", " \n", ";\n"} {
		read(t, strings.Repeat(s, 65536)[:65536], api.Module{})
	}
	faulty(t, strings.Repeat("x", 65536), 1, api.ErrAsmLine)
	faulty(t, strings.Repeat("\n", 65535)+"x", 65536, api.ErrAsmLine)
	faulty(t, strings.Repeat(".func 0 0 41\n", 5041), 0, api.ErrAsmForm)
}

// goodLines are lines that may stand in a function's code.
func goodLines() []string {
	out := []string{
		"", ";", "; x", ";x", ";.func", "; \xff \x00 \t", ".const 5", ".const \"a b\"", ".export zz 0", ".at zz", ".bytes 00", ".bytes 0123456789abcdef", "jump top", "unless top",
		".at jump", ".at ret", ".const \"; x\"", ".const \";\"",
	}
	for _, name := range operations {
		top, has := tops[name]
		if has {
			name += " " + fmt.Sprint(top)
		}
		out = append(out, name)
	}
	return out
}

// badLines are none, wherever they stand: the same label may not be told twice there.
func badLines() []string {
	out := []string{
		"foo", ".", "..", "-", "0", "5", "Ret", "RET", "ret.", ".ret", "ret;", "ret ;", "ret ; x", "\tret", "ret\t", "ret\r", "\r", "\x00", "\t", "\xa0", "\u00a0", "\v", "\u2003", "x ; y", "const:", "top:", "#", "//",
		".const", ".Const 5", ".const5", ".const;", "const", ".func", ".func 0", ".func 0 0", ".func 0 0 1 1", ".func 0 0 x", ".func x 0 0", ".func 0 x 0", ".func 0 0 -1", ".func 0 0 1 ;", ".func 0,0,0", ".func 0\t0 0", ".Func 0 0 0", "func 0 0 0",
		".at", ".at top", ".at a b", ".at 1", ".at 1a", ".at -", ".at a-b", ".at " + letters(21), ".at a ; x", ".at é", ".at a:", ".At a", "at a", ".at a\t", ".at .at",
		".bytes", ".bytes 0", ".bytes 000", ".bytes 00 00", ".bytes 0A", ".bytes 0g", ".bytes g0", ".bytes 0x00", ".bytes \"00\"", ".bytes -0", ".bytes +1", ".bytes 1_", ".bytes é", ".bytes 00;", ".Bytes 00", "bytes 00", ".bytes 00/00", ".bytes 0:", ".bytes 0`",
		".export", ".export a", ".export 0", ".export 0 a", ".export a 0 0", ".export a b", ".export 1a 0", ".export a- 0", ".export " + letters(21) + " 0", ".export é 0", ".export \"a\" 0", ".export a 00", ".export a -1", ".export a 1000000000", "export a 0", ".Export a 0",
		"jump", "unless", "jump top top", "jump top 0", "unless 0 top", "jump 1a", "jump -a", "jump a-", "jump " + letters(21), "jump é", "jump 4000", "unless 4000", "jump 00", "jump 03", "jump -1", "jump .at", "jump ;", "jump; x", "jump\ttop",
		"call top", "get top", "array top", "const unit", "ret top", "pop 0", "pop 1", "ret 0", "add 1 2", "get 1 2", "get 32", "set 32", "const 100", "call 24", "array 41", "record 100", "field 100", "get -0", "get +1", "get 1.", "get 1e1", "get 0x1", "get \"1\"", "get 01", "get 1;",
		"get 4294967296", "get 4294967297", "get 18446744073709551616", "jump 65536", "jump 65537", "get 256", "get 999999999", "get 1000000000",
	}
	for _, name := range operations {
		top, has := tops[name]
		if has {
			out = append(out, name, name+" x y", name+fmt.Sprint(" ", top, " ", top), fmt.Sprint(name, " ", top+1), name+" -1", name+" 00")
		} else {
			out = append(out, name+" 0", name+" x", name+" ;")
		}
		out = append(out, strings.ToUpper(name), name+"s", name[1:]+"_", "."+name)
	}
	return out
}

// around are texts ahead of and behind a line: it stands in a function's code, in which there is a label top.
func around() [][2]string {
	return [][2]string{
		{".func 0 0 1\n.at top\n", ""}, {".func 0 0 1\n.at top\n", "\n"}, {".func 0 0 1\n.at top\n", "\nret\n.export zzz 0\n"},
		{"; x\n\n.const 1\n.func 0 0 1\nret\n .at  top \n\n", "\n.func 0 0 1\n.at top\njump top\n"}, {".func 0 0 1\nret\n.at x\n.func 0 0 1\n.at top\nret\n", "\nunless top"},
		{".func 0 0 1\n.at top\n.const 7\n.export a 0\n", ""},
	}
}

func TestP102GoodLines(t *testing.T) {
	for _, s := range goodLines() {
		for _, a := range around() {
			for _, line := range []string{s, " " + s, s + " ", "   " + s + "   ", strings.Replace(s, " ", "    ", 1)} {
				meet(t, a[0]+line+a[1])
				parsed(t, a[0]+line+a[1])
			}
		}
	}
}

func TestP102BadLines(t *testing.T) {
	for _, s := range badLines() {
		for _, a := range around() {
			nth := 1 + strings.Count(a[0], "\n")
			for _, line := range []string{s, " " + s, s + " ", "   " + s + "   ", strings.Replace(s, " ", "    ", 1)} {
				faulty(t, a[0]+line+a[1], nth, api.ErrAsmLine)
				faulty(t, a[0]+line+a[1]+"\nfoo\njump nowhere", nth, api.ErrAsmLine)
			}
		}
	}
}

// Code belongs to a function: none may stand ahead of the first one.
func TestP102Ahead(t *testing.T) {
	for _, s := range append(operations, goodLines()...) {
		code := !strings.HasPrefix(s, ";") && !strings.HasPrefix(s, ".const") && !strings.HasPrefix(s, ".export") && s != ""
		for _, ahead := range []string{"", "\n", "; x\n", ".const 5\n", ".export a 0\n.const 5\n\n"} {
			for _, behind := range []string{"", "\n.func 0 0 1\n.at top\nret"} {
				if code {
					faulty(t, ahead+s+behind, 1+strings.Count(ahead, "\n"), api.ErrAsmLine)
				} else if _, _, e := asm.Parse(ahead + s + behind); e == api.ErrAsmLine {
					t.Errorf("%q: Parse answers %v", ahead+s+behind, e)
				}
			}
		}
	}
}

// What stands between does not end a function: code goes to the last one.
func TestP102Between(t *testing.T) {
	m := api.Module{Consts: []api.Value{number(1), number(2), number(3)}, Funcs: []api.Func{fn(0, 0, 1, "\x04\x07\x09"), fn(0, 0, 2, "\x0a\x0b\x00")}, Exports: []api.Export{as("a", 0), as("b", 1)}}
	read(t, row(".export a 0/.const 1/.func 0 0 1/pop/.const 2/test/.export b 1/ret/.func 0 0 2/add/.const 3/sub/.bytes 00"), m)
	read(t, row(".func 0 0 1/pop/test/ret/.func 0 0 2/.export a 0/add/; x/sub/.export b 1/.bytes 00/.const 1/.const 2/.const 3"), m)
}

func TestP102Numbers(t *testing.T) {
	places := []string{".func # 8 0", ".func 0 # 0", ".func 0 0 #", ".func 0 0 1\n.export a #", ".func 0 0 1\nget #", ".func 0 0 1\njump #", ".func 0 0 1\nconst #"}
	for _, place := range places {
		nth := 1 + strings.Count(place, "\n")
		for _, s := range []string{
			"-", "+", "-0", "+0", "-1", "+1", "00", "01", "007", "0000000000", "1000000000", "1234567890", "9999999999", "18446744073709551616", "18446744073709551617", strings.Repeat("1", 1000), strings.Repeat("0", 1000),
			"1a", "1.", ".1", "1_0", "0x1", "0b1", "0o7", "1e3", "１", "٣", "1\t", "\t1", "1\r", "1\x00", "\"1\"", "'1'", "1,", "1;", ";",
		} {
			faulty(t, strings.Replace(place, "#", s, 1), nth, api.ErrAsmLine)
		}
		for _, s := range []string{"0", "1", "2", "8", "9", "10", "31", "32", "33", "40", "41", "99", "100", "999", "3999", "4000", "65536", "99999999", "100000000", "999999999"} {
			meet(t, strings.Replace(place, "#", s, 1))
		}
	}
	for _, place := range places[:4] { // a number that is too great is one all the same
		for _, s := range []string{"41", "999999999", "100000000", "123456789"} {
			faulty(t, strings.Replace(place, "#", s, 1), 0, api.ErrAsmForm)
		}
	}
	for n := range 12 {
		read(t, fmt.Sprint(".func ", n%9, " ", n%9+n, " ", 3*n), funcs(fn(n%9, n%9+n, 3*n, "")))
	}
}

// Each operation, with each operand that it may have, and those that it may not.
func TestP102Operands(t *testing.T) {
	for _, name := range operations {
		top, has := tops[name]
		if !has {
			read(t, ".func 0 0 0\n"+name, coded(laid(name, 0)))
		}
		for a := 0; has && a <= top+300; a++ {
			s := fmt.Sprint(".func 0 0 0\n", name, " ", a)
			if a <= top {
				read(t, s, coded(laid(name, a)))
			} else {
				faulty(t, s, 2, api.ErrAsmLine)
			}
		}
	}
}

func TestP102Names(t *testing.T) {
	for a := range 256 {
		for _, s := range []string{string([]byte{byte(a)}), "n" + string([]byte{byte(a)}), string([]byte{byte(a)}) + "n", letters(19) + string([]byte{byte(a)}), letters(20) + string([]byte{byte(a)})} {
			for _, place := range []string{".func 0 0 1\n.at #", ".func 0 0 1\n.export # 0", ".func 0 0 1\njump #", ".func 0 0 1\n.at #\nret\njump #"} {
				meet(t, strings.ReplaceAll(place, "#", s))
			}
		}
	}
	for _, s := range append([]string{"a", "_", "Z", "a0", "__", letters(20), "unit", "true", "func"}, operations...) {
		read(t, ".func 0 0 1\npop\n.at "+s+"\njump "+s+"\nunless "+s+"\n.export "+s+" 0", api.Module{Funcs: []api.Func{fn(0, 0, 1, "\x04\x05\x00\x01\x06\x00\x01")}, Exports: []api.Export{as(s, 0)}})
	}
}

func TestP102Hex(t *testing.T) {
	for a := range 256 {
		for b := range 256 {
			s := string([]byte{byte(a), byte(b)})
			if a != ' ' && b != ' ' && a != '\n' && b != '\n' {
				meet(t, ".func 0 0 0\n.bytes "+s)
				meet(t, ".func 0 0 0\n.bytes 7f"+s)
			}
		}
		read(t, fmt.Sprintf(".func 0 0 0\n.bytes %02x\npop\n.bytes %02x00", a, a), coded(string([]byte{byte(a), 4, byte(a), 0})))
	}
	read(t, ".func 0 0 0\n.bytes "+hex.EncodeToString([]byte(every())), coded(every()))
}

func TestP102Values(t *testing.T) {
	for _, v := range rights() {
		s := show(v)
		for _, line := range []string{".const " + s, " .const   " + s, ".const " + s + "   ", "   .const    " + s + " "} {
			read(t, line, consts(v))
			read(t, "\n"+line+"\n.const unit", consts(v, unit))
		}
		for _, line := range []string{".const" + s, ".const " + s + " " + s, ".const " + s + " ;", ".const " + s + " ; x", ".const " + s + ",", ".const\t" + s, ".const " + s + "\t", ".const (" + s + ")", ".const \x00" + s} {
			faulty(t, line, 1, api.ErrAsmLine)
			faulty(t, ".const 1\n"+line, 2, api.ErrAsmLine)
		}
	}
	for _, v := range wrongs() {
		faulty(t, ".const "+show(v), 1, api.ErrAsmLine)
		faulty(t, ".const 1\n\n.const "+show(v)+"\n.const 1", 3, api.ErrAsmLine)
	}
}

func TestP102WrongValues(t *testing.T) {
	for _, s := range []string{
		"Unit", "units", "unit unit", "True", "TRUE", "t", "nil", "null", "()", "(unit)", "u", "uni", "fals", "tru",
		"05", "00", "-0", "+5", "+0", "-", "--5", "5-", "5-5", "- 5", "5.0", "5e3", "0x5", "1_000", "9223372036854775808", "-9223372036854775809", "-00", "-05", "18446744073709551617", strings.Repeat("9", 5000),
		`"`, `"a`, `a"`, `""" `, `"a"b"`, `'a'`, "`a`", `"\`, `"\"`, `"\a"`, `"\n"`, `"\t"`, `"\0"`, `"\x"`, `"\x0"`, `"\x0`, `"\x`, `"\x00`, `"\x0g"`, `"\xFF"`, `"\x0A"`, `"\xfF"`, `"\X00"`, `"\x41"`, `"\x20"`, `"\x7e"`, `"\x22"`, `"\x5c"`, `"\u0041"`, `"\\\"`, `"\\""`,
		"\"\x00\"", "\"\t\"", "\"\x7f\"", "\"\x80\"", "\"é\"", "\"\xff\"", "\"\x1f\"", `"\ "`, `"\x 0"`, `"\x0 "`,
		"[", "]", "[]]", "[[]", "[ ]", "[1,2]", "[1 ,2]", "[1 , 2]", "[1,  2]", "[1, 2,]", "[1, 2, ]", "[, 1]", "[,]", "[, ]", "[1 2]", "[1, 2", "[1, ", "[1,", "[1", "[ 1]", "[1 ]", "[1]2", "(1)", "[1}", "[1; 2]", "[1:, 2]", "[1, , 2]",
		"{", "}", "{}}", "{ }", `{"a"}`, `{"a":1}`, `{"a" : 1}`, `{"a":  1}`, `{"a": }`, `{"a": 1,}`, `{"a": 1, }`, `{"a": 1, "b"}`, `{"a": 1,"b": 2}`, `{"b": 1, "a": 2}`, `{"a": 1, "a": 2}`, `{a: 1}`, `{1: 1}`, `{: 1}`, `{"a: 1}`, `{"a": 1`, `{"a": 1]`, `{"a": `, `{"a"`, `{"a":`, `{"a`, `{"`, `{, "a": 1}`,
		`{"a": 1 "b": 2}`, `{"\x41": 1}`, `{"a": 01}`, `{[]: 1}`, `{"a": "b": "c"}`, `{"a", "b"}`, `["a": 1]`, `{1}`, `{1, 2}`, `{"é": 1}`,
		"[05]", "[-0]", `["\x41"]`, `[{"b": 1, "a": 2}]`, `{"a": [1,2]}`, "[[[[[[[[1]]]]]]]]", "[[[[[[[[]]]]]]]]]", "[[[[[[[[[]]]]]]]]]", strings.Repeat("[", 60000), strings.Repeat("{", 60000), strings.Repeat(`{"":`, 15000), strings.Repeat(`{"": `, 13000), strings.Repeat("[", 30000) + strings.Repeat("]", 30000),
		strings.Repeat(`"`, 60000), strings.Repeat(`\`, 60000), `"` + strings.Repeat(`\`, 60000), `"` + strings.Repeat(`\x`, 30000), "[" + strings.Repeat("unit, ", 10000), ";", "; 5", ".const 5", "const 5", "é", "\x00", "\xff",
	} {
		faulty(t, ".const "+s, 1, api.ErrAsmLine)
		meet(t, ".const "+s)
	}
}

func TestP102LabelTwice(t *testing.T) {
	faulty(t, row(".func 0 0 1/.at a/.at a"), 3, api.ErrAsmLine)
	faulty(t, row(".func 0 0 1/.at a/.at b/jump a/.at c/.at b/.at a"), 6, api.ErrAsmLine)
	faulty(t, row(".func 0 0 1/.at a/.func 0 0 1/.at a/pop/.at a"), 6, api.ErrAsmLine)
	faulty(t, row(".func 0 0 1/.at a/.const 5/.export a 0/.at a"), 5, api.ErrAsmLine)
	read(t, row(".func 0 0 1/.at a/.at A/.at aa/.at b/jump b"), funcs(fn(0, 0, 1, "\x05\x00\x00")))
	read(t, row(".func 0 0 1/.at a/jump a/.func 0 0 1/pop/.at a/jump a/.func 0 0 1/pop/pop/.at a/unless a"), funcs(fn(0, 0, 1, "\x05\x00\x00"), fn(0, 0, 1, "\x04\x05\x00\x01"), fn(0, 0, 1, "\x04\x04\x06\x00\x02")))
}

func TestP102Labels(t *testing.T) {
	read(t, row(".func 0 0 1/jump a/unless a/jump b/.at a/ret/.at b"), funcs(fn(0, 0, 1, "\x05\x00\x09\x06\x00\x09\x05\x00\x0a\x09")))
	read(t, row(".func 0 0 1/.bytes 050001/.at a/jump a/jump 3/jump 0"), funcs(fn(0, 0, 1, "\x05\x00\x01\x05\x00\x03\x05\x00\x03\x05\x00\x00")))
	read(t, row(".func 0 0 1/jump a/.const unit/.export f 0/.at a"), api.Module{Consts: []api.Value{unit}, Funcs: []api.Func{fn(0, 0, 1, "\x05\x00\x03")}, Exports: []api.Export{as("f", 0)}})
	for s, line := range map[string]int{
		"jump x": 2, "unless x": 2, "ret/jump x": 3, ".at y/jump x": 3, "jump y/.at y/unless x/jump z": 4, ".at X/jump x": 3, ".at xx/jump x": 3, "jump x/.func 0 0 1/.at x": 2, ".at x/.func 0 0 1/jump x": 4, ".at x/.func 0 0 1/.func 0 0 1/; x//jump x": 7,
		"jump f/.export f 0": 2, "unless z/jump y": 2, "jump jump": 2, ".at a/jump a/.func 0 0 1/jump a/.at a/.func 0 0 1/pop/unless a": 9,
	} {
		faulty(t, row(".func 0 0 1/"+s), line, api.ErrAsmForm)
		faulty(t, row(".func 0 0 41/"+s), line, api.ErrAsmForm) // ahead of what is not right of the whole
		faulty(t, row(".func 0 0 1/"+s+"/foo"), 2+strings.Count(s, "/")+1, api.ErrAsmLine)
	}
}

// A label's place is an operand: it is at most 3999, which may be the place behind all.
func TestP102LabelPlaces(t *testing.T) {
	for size := 3990; size <= 4010; size++ {
		code := ".func 0 0 1\njump x\n; far\n.bytes " + strings.Repeat("04", size-3) + "\n.at x\n"
		switch {
		case size <= 3999:
			read(t, code, funcs(fn(0, 0, 1, laid("jump", size)+strings.Repeat("\x04", size-3))))
		default:
			faulty(t, code, 2, api.ErrAsmForm)
			faulty(t, code+"unless x\n", 2, api.ErrAsmForm)
			faulty(t, strings.Replace(code, "jump x\n", "pop\npop\npop\n", 1)+"unless x\n", 8, api.ErrAsmForm)
		}
		// A label that nothing names may stand at any place: what counts is how much code there is.
		unnamed := ".func 0 0 1\n.bytes " + strings.Repeat("04", size) + "\n.at x\n"
		if size <= 4000 {
			read(t, unnamed, funcs(fn(0, 0, 1, strings.Repeat("\x04", size))))
		} else {
			faulty(t, unnamed, 0, api.ErrAsmForm)
		}
	}
	// The first line of those that are wrong, whichever way they are.
	faulty(t, ".func 0 0 1\njump x\njump y\n.bytes "+strings.Repeat("04", 4000)+"\n.at x\n", 2, api.ErrAsmForm)
	faulty(t, ".func 0 0 1\njump y\njump x\n.bytes "+strings.Repeat("04", 4000)+"\n.at x\n", 2, api.ErrAsmForm)
	faulty(t, ".func 0 0 1\njump z\n.at z\njump x\njump y\n.bytes "+strings.Repeat("04", 32000)+"\n.at x\n", 4, api.ErrAsmForm)
}

// What lines tell, each by itself, may be no module's all the same.
func TestP102NotRight(t *testing.T) {
	told1 := 0
	for what, m := range bads() {
		s := told(m)
		if strings.HasPrefix(what, "value") || len(s) > 65536 {
			continue // a line that is none, or too long
		}
		if _, _, e := reading(s); e != api.ErrAsmForm {
			continue
		}
		told1++
		faulty(t, s, 0, api.ErrAsmForm)
		faulty(t, s+"foo", 1+strings.Count(s, "\n"), api.ErrAsmLine)
		faulty(t, s+".func 0 0 1\njump x", 2+strings.Count(s, "\n"), api.ErrAsmForm)
	}
	if told1 < 13 {
		t.Errorf("%d modules: the test asks too little", told1)
	}
	faulty(t, strings.Repeat(".const 1\n", 101), 0, api.ErrAsmForm)
	faulty(t, strings.Repeat(".func 0 0 0\n", 25), 0, api.ErrAsmForm)
	faulty(t, row(".func 0 0 0/.export b 0/.export a 0"), 0, api.ErrAsmForm)
	faulty(t, row(".func 0 0 0/.export a 0/.export a 0"), 0, api.ErrAsmForm)
	faulty(t, ".func 0 0 0\n"+strings.Repeat("pop\n", 4001), 0, api.ErrAsmForm)
	read(t, ".func 0 0 0\n"+strings.Repeat("pop\n", 4000), coded(strings.Repeat("\x04", 4000)))
	read(t, row(".export a 0/.export b 0/.func 0 0 0"), api.Module{Funcs: make([]api.Func, 1), Exports: []api.Export{as("a", 0), as("b", 0)}})
}

var (
	numberForm = regexp.MustCompile(`\A(?:0|[1-9][0-9]{0,8})\z`)
	nameForm   = regexp.MustCompile(`\A[A-Za-z_][A-Za-z0-9_]{0,19}\z`)
	hexForm    = regexp.MustCompile(`\A(?:[0-9a-f]{2})+\z`)
	constForm  = regexp.MustCompile(`(?s)\A *\.const +(.*?) *\z`)
	wordForm   = regexp.MustCompile(`[^ ]+`)
	bytesForm  = regexp.MustCompile(`\A"(?:[ !#-\[\]-~]|\\["\\]|\\x[0-9a-f]{2})*"`)
	intForm    = regexp.MustCompile(`\A(?:0|-?[1-9][0-9]*)`)
	escapeForm = regexp.MustCompile(`\\(?:x..|.)`)
)

// sight is a second reading of a value's text: it stops at the first thing that is wrong.
type sight struct{ rest string }

// cut takes off what a form matches.
func (s *sight) cut(form *regexp.Regexp) string {
	got := form.FindString(s.rest)
	s.rest = s.rest[len(got):]
	return got
}

// must leaves out what has to stand there.
func (s *sight) must(word string) {
	if !s.may(word) {
		panic(fmt.Sprintf("no %q", word))
	}
}

func (s *sight) may(word string) bool {
	is := strings.HasPrefix(s.rest, word)
	if is {
		s.rest = s.rest[len(word):]
	}
	return is
}

// quoted reads bytes between quotes, each told in its one way.
func (s *sight) quoted() string {
	got := s.cut(bytesForm)
	if got == "" {
		panic("no bytes")
	}
	return escapeForm.ReplaceAllStringFunc(got[1:len(got)-1], func(x string) string {
		if x[1] != 'x' {
			return x[1:]
		}
		n, err := strconv.ParseUint(x[2:], 16, 8)
		if err != nil || n >= 0x20 && n <= 0x7e {
			panic("no number of a byte")
		}
		return string([]byte{byte(n)})
	})
}

func (s *sight) value(deep int) (v api.Value) {
	if deep > 8 || s.rest == "" {
		panic("no value")
	}
	switch s.rest[0] {
	case 'u':
		s.must("unit")
	case 't':
		s.must("true")
		v = truth(1)
	case 'f':
		s.must("false")
		v = truth(0)
	case '"':
		v = text(s.quoted())
	case '[', '{':
		ends := map[bool]string{true: "]", false: "}"}[s.may("[")]
		v.Kind = api.Array
		if ends == "}" {
			s.must("{")
			v.Kind = api.Record
		}
		for first := true; !s.may(ends); first = false {
			if !first {
				s.must(", ")
			}
			if ends == "}" {
				key := s.quoted()
				if len(key) > 32 || !first && key <= v.K[len(v.K)-1] {
					panic("no key")
				}
				v.K = append(v.K, key)
				s.must(": ")
			}
			v.L = append(v.L, s.value(deep+1))
		}
	default:
		n, err := strconv.ParseInt(s.cut(intForm), 10, 64)
		if err != nil {
			panic("no number")
		}
		v = number(n)
	}
	return v
}

// weight is a second reading of a value's weight.
func weight(v api.Value) int {
	n := 1 + len(v.S)
	for _, k := range v.K {
		n += 1 + len(k)
	}
	for _, x := range v.L {
		n += weight(x)
	}
	return n
}

// valueOf is the value whose text it is.
func valueOf(s string) (v api.Value, ok bool) {
	defer func() {
		if recover() != nil {
			v, ok = api.Value{}, false
		}
	}()
	r := &sight{s}
	v = r.value(1)
	return v, r.rest == "" && weight(v) <= 2048
}

// part is what a line adds to a function's code: bytes, a label, or a jump to one.
type part struct {
	line  int
	bytes string
	label string // of .at
	names string // of a jump
}

// codeLine is a second reading of a line that belongs to code; false: it is none.
func codeLine(words []string) (p part, ok bool) {
	top, has := tops[words[0]]
	op := slices.Contains(operations, words[0])
	switch {
	case len(words) == 1 && op && !has:
		return part{bytes: laid(words[0], 0)}, true
	case len(words) != 2:
		return p, false
	case has && numberForm.MatchString(words[1]):
		n, _ := strconv.Atoi(words[1])
		return part{bytes: laid(words[0], n)}, n <= top
	case top == 3999 && nameForm.MatchString(words[1]):
		return part{bytes: laid(words[0], 0), names: words[1]}, true
	case words[0] == ".at" && nameForm.MatchString(words[1]):
		return part{label: words[1]}, true
	case words[0] == ".bytes" && hexForm.MatchString(words[1]):
		b, _ := hex.DecodeString(words[1])
		return part{bytes: string(b)}, true
	}
	return p, false
}

// outline is a second reading of the lines, each by itself: the module without code, and the parts of that of each function. It answers the first line that is none, or 0.
func outline(s string) (m api.Module, code [][]part, nth int) {
	var labels map[string]bool
	for i, line := range strings.Split(s, "\n") {
		words := wordForm.FindAllString(line, -1)
		if len(words) == 0 || strings.HasPrefix(words[0], ";") {
			continue
		}
		var n []int
		for _, w := range words[1:] {
			if numberForm.MatchString(w) {
				x, _ := strconv.Atoi(w)
				n = append(n, x)
			}
		}
		ok := false
		switch words[0] {
		case ".const":
			var v api.Value
			if form := constForm.FindStringSubmatch(line); form != nil {
				v, ok = valueOf(form[1])
			}
			m.Consts = append(m.Consts, v)
		case ".func":
			if ok = len(words) == 4 && len(n) == 3; ok {
				m.Funcs, code, labels = append(m.Funcs, fn(n[0], n[1], n[2], "")), append(code, nil), map[string]bool{}
			}
		case ".export":
			if ok = len(words) == 3 && len(n) == 1 && nameForm.MatchString(words[1]); ok {
				m.Exports = append(m.Exports, as(words[1], n[0]))
			}
		default:
			var p part
			p, ok = codeLine(words)
			p.line = i + 1
			if ok = ok && len(code) > 0 && !labels[p.label]; ok {
				code[len(code)-1] = append(code[len(code)-1], p)
				labels[p.label] = p.label != ""
			}
		}
		if !ok {
			return api.Module{}, nil, i + 1
		}
	}
	return m, code, 0
}

// reading is what Parse must answer.
func reading(s string) (api.Module, int, api.Errno) {
	if len(s) > 65536 {
		return api.Module{}, 0, api.ErrAsmLong
	}
	m, code, line := outline(s)
	if line > 0 {
		return api.Module{}, line, api.ErrAsmLine
	}
	for i, parts := range code {
		places, at := map[string]int{}, 0
		for _, p := range parts {
			if p.label != "" {
				places[p.label] = at
			}
			at += len(p.bytes)
		}
		for _, p := range parts {
			if p.names != "" {
				place, ok := places[p.names]
				if !ok || place > 3999 {
					return api.Module{}, p.line, api.ErrAsmForm
				}
				p.bytes = p.bytes[:1] + string([]byte{byte(place / 256), byte(place % 256)})
			}
			m.Funcs[i].Code += p.bytes
		}
	}
	if !module.Right(m) {
		return api.Module{}, 0, api.ErrAsmForm
	}
	return m, 0, api.OK
}

// meet holds Parse against the second reading; what it reads is written as a text that is read as the same module.
func meet(t *testing.T, s string) api.Errno {
	t.Helper()
	want, nth, code := reading(s)
	m, line, e := asm.Parse(s)
	if e != code || line != nth || !sameModule(m, want) {
		t.Fatalf("%.300q: Parse answers %.80v, %d, %v, not %.80v, %d, %v", s, m, line, e, want, nth, code)
	}
	if e != api.OK {
		return e
	}
	again, f := asm.Print(m)
	if f == api.ErrAsmLong && len(told(m)) > 65536 {
		return e
	}
	if f != api.OK || again != told(m) {
		t.Fatalf("%.300q: Print of what is read answers %.80q, %v", s, again, f)
	}
	if n, line, f := asm.Parse(again); f != api.OK || line != 0 || !sameModule(n, m) {
		t.Fatalf("%.300q: what is read is written, and read again, as another module", s)
	}
	return e
}

// often: has each of these answers been met so often?
func often(t *testing.T, seen map[api.Errno]int, least int, answers ...api.Errno) {
	t.Helper()
	for _, e := range answers {
		if seen[e] < least {
			t.Errorf("%v: %d times: the test asks too little", e, seen[e])
		}
	}
}

// small are texts with all sorts of lines.
func small() []string {
	return []string{
		told(one()), told(some()), row(".func 1 1 2/ .at top/get 0/unless end/jump top/.at end/.bytes 2a00"), "; x\n\n  .const   [1, \"a  \\x00\"]  \n.export a 0\n.func 0 0 1\njump b\n.at b\n",
		row(".const {\"a\": -1, \"b\": [true, {}]}/.func 0 0 0/array 40/.func 8 32 40/jump 3999"),
	}
}

func TestP102EveryBeginning(t *testing.T) {
	for _, m := range goods() {
		s := told(m)
		for end := 0; end < len(s); end += 1 + len(s)/500 {
			meet(t, s[:end])
		}
	}
	for _, s := range small() {
		for from := range s {
			for to := from; to <= min(from+50, len(s)); to++ {
				meet(t, s[:from]+s[to:])
			}
		}
	}
}

func TestP102EveryByteChanged(t *testing.T) {
	seen := map[api.Errno]int{}
	for _, s := range small() {
		for place := range len(s) {
			for c := range 256 {
				seen[meet(t, s[:place]+string([]byte{byte(c)})+s[place+1:])]++
				seen[meet(t, s[:place]+string([]byte{byte(c)})+s[place:])]++
			}
		}
	}
	often(t, seen, 300, api.OK, api.ErrAsmLine, api.ErrAsmForm)
}

// Each byte of values' texts changed.
func TestP102EveryValueChanged(t *testing.T) {
	seen := map[api.Errno]int{}
	for _, v := range rights() {
		s := show(v)
		if len(s) > 100 {
			continue
		}
		for place := range len(s) {
			for c := range 256 {
				seen[meet(t, ".const "+s[:place]+string([]byte{byte(c)})+s[place+1:])]++
				seen[meet(t, ".const "+s[:place]+string([]byte{byte(c)})+s[place:])]++
			}
			seen[meet(t, ".const "+s[:place]+s[place+1:])]++
		}
	}
	often(t, seen, 300, api.OK, api.ErrAsmLine)
}

// Lines by chance, mostly good ones, in any order.
func TestP102Random(t *testing.T) {
	dice := rand.New(rand.NewSource(1))
	good := append(goodLines(), ".at a", ".at b", ".at c", "jump a", "jump b", "unless c", "jump a", "unless b", ".func 0 0 1", ".func 1 2 3", ".func 0 0 41", ".export c 1", ".export a 0", ".export b 0", ".const [unit, {\"a\": -5}]")
	bad := badLines()
	seen, whole := map[api.Errno]int{}, 0
	for range 60000 {
		var l []string
		if dice.Intn(20) > 0 {
			l = append(l, ".func 0 0 1")
		}
		if dice.Intn(3) > 0 {
			l = append(l, ".at top")
		}
		for range dice.Intn(8) {
			l = append(l, good[dice.Intn(len(good))])
			if dice.Intn(30) == 0 {
				l = append(l, bad[dice.Intn(len(bad))])
			}
		}
		e := meet(t, strings.Join(l, "\n"))
		seen[e]++
		if e == api.OK && len(l) > 5 {
			whole++
		}
	}
	often(t, seen, 3000, api.OK, api.ErrAsmLine, api.ErrAsmForm)
	if whole < 500 {
		t.Errorf("%d texts that are taken: the test asks too little", whole)
	}
}

// Words made by chance of a few bytes.
func TestP102RandomBytes(t *testing.T) {
	dice := rand.New(rand.NewSource(2))
	parts := []string{" ", "\n", ";", ".const", ".func", ".at", ".bytes", ".export", "jump", "unless", "get", "ret", "0", "1", "a", "b", "00", "-", "\"", "\\", "x", "[", "]", "{", "}", ", ", ": ", "unit", "true", ".func 0 0 1\n", ".const ", "\t", "\xff", " a ", " 0 "}
	seen := map[api.Errno]int{}
	for range 100000 {
		var s strings.Builder
		for range dice.Intn(10) {
			s.WriteString(parts[dice.Intn(len(parts))])
		}
		seen[meet(t, s.String())]++
		seen[meet(t, ".const "+s.String())]++
		seen[meet(t, ".func 0 0 1\n.at a\n"+s.String())]++
	}
	often(t, seen, 1000, api.OK, api.ErrAsmLine)
}

func FuzzParse(f *testing.F) {
	for _, s := range small() {
		f.Add(s)
	}
	f.Fuzz(func(t *testing.T, s string) { meet(t, s) })
}

func TestThereAndBack(t *testing.T) {
	for what, m := range goods() {
		s := printed(t, m)
		if !sameModule(parsed(t, s), m) {
			t.Errorf("%s: Parse of Print is another module", what)
		}
		if again := printed(t, parsed(t, s)); again != s {
			t.Errorf("%s: Print of what is read is %.80q, not %.80q", what, again, s)
		}
	}
}

// Lines that say nothing, and blanks, make no difference, but to the numbers of lines.
func TestNoDifference(t *testing.T) {
	dice := rand.New(rand.NewSource(3))
	nothing := []string{"", " ", "   ", ";", "; x", "  ;;", "; .func 0 0 1", ";foo", "; \xff\t"}
	blanks := func() string { return strings.Repeat(" ", dice.Intn(3)) }
	for what, m := range goods() {
		if len(told(m)) > 3000 {
			continue
		}
		for range 20 {
			var out []string
			for _, line := range strings.Split(told(m), "\n") {
				for range dice.Intn(3) {
					out = append(out, nothing[dice.Intn(len(nothing))])
				}
				if strings.HasPrefix(line, ".const ") {
					line = ".const " + blanks() + strings.TrimPrefix(line, ".const ")
				} else {
					line = strings.ReplaceAll(line, " ", " "+blanks())
				}
				out = append(out, blanks()+line+blanks())
			}
			if got := parsed(t, strings.Join(out, "\n")); !sameModule(got, m) {
				t.Fatalf("%s: %.80q is read as another module", what, out)
			}
			out = append(out, "foo")
			faulty(t, strings.Join(out, "\n"), len(out), api.ErrAsmLine)
		}
	}
}

// What is printed is the text that chapter 3 writes of the constants.
func TestValuesAsPrinted(t *testing.T) {
	for _, v := range rights() {
		if got := printed(t, consts(v)); got != ".const "+value.Print(v)+"\n" {
			t.Errorf("Print is %.80q", got)
		}
	}
}

// piece is some memory: a list with its spare room, or a text.
type piece struct{ from, to uintptr }

func listPiece[T any](l []T) []piece {
	if cap(l) == 0 {
		return nil
	}
	from := uintptr(unsafe.Pointer(unsafe.SliceData(l)))
	return []piece{{from, from + uintptr(cap(l))*unsafe.Sizeof(l[:1][0])}}
}

func textPiece(s string) []piece {
	if s == "" {
		return nil
	}
	from := uintptr(unsafe.Pointer(unsafe.StringData(s)))
	return []piece{{from, from + uintptr(len(s))}}
}

func valuePieces(v api.Value) []piece {
	out := slices.Concat(listPiece(v.L), listPiece(v.K), textPiece(v.S))
	for _, key := range v.K {
		out = append(out, textPiece(key)...)
	}
	for _, x := range v.L {
		out = append(out, valuePieces(x)...)
	}
	return out
}

func pieces(m api.Module) []piece {
	out := slices.Concat(listPiece(m.Consts), listPiece(m.Funcs), listPiece(m.Exports))
	for _, v := range m.Consts {
		out = append(out, valuePieces(v)...)
	}
	for _, f := range m.Funcs {
		out = append(out, textPiece(f.Code)...)
	}
	for _, x := range m.Exports {
		out = append(out, textPiece(x.Name)...)
	}
	return out
}

// shared: does one of these pieces meet another one of them, or one of those that were given?
func shared(answer []piece, given ...[]piece) bool {
	for i, a := range answer {
		for _, b := range slices.Concat(answer[i+1:], slices.Concat(given...)) {
			if a.from < b.to && b.from < a.to {
				return true
			}
		}
	}
	return false
}

// memory is a text whose parts are long enough to have memory of their own.
const memory = `.const "some text"
.const [["inner text", "inner text"], "other text", {"the key": "inner text"}]
.const {"the key": [1, 2], "this key": {"the key": "some text"}}
.func 0 0 1
.at the_label
jump the_label
.bytes 00ff00ff
.func 0 0 1
jump the_label
.at the_label
.export the_label 0
.export the_name 1
`

func TestR3Parse(t *testing.T) {
	s := strings.Clone(memory)
	a, b := parsed(t, s), parsed(t, s)
	if shared(slices.Concat(pieces(a), pieces(b)), textPiece(s)) {
		t.Error("Parse shares memory")
	}
	if s != memory {
		t.Error("Parse changes what was handed in")
	}
	want := parsed(t, memory)
	a.Consts[1].L[0].L[0].S, a.Consts[2].K[0], a.Consts[2].L[0].L[0] = "other", "other", unit
	a.Funcs[0], a.Exports[0] = api.Func{}, as("x", 1)
	if !sameModule(b, want) || sameModule(a, want) {
		t.Error("what is written into one module is seen in another one")
	}
}

func TestR3Print(t *testing.T) {
	given := func() api.Module {
		m := parsed(t, memory)
		m.Consts = append(m.Consts, text("spare"))[:3]
		m.Funcs = append(m.Funcs, fn(0, 0, 0, "spare"))[:2]
		m.Exports = append(m.Exports, as("spare", 0))[:2]
		return m
	}
	m := given()
	one, two := printed(t, m), printed(t, m)
	if shared(slices.Concat(textPiece(one), textPiece(two)), pieces(m)) {
		t.Error("Print shares memory")
	}
	m.Funcs[1].Stack = 41
	asm.Print(m)
	m.Funcs[1].Stack = 1
	if !sameModule(m, given()) || m.Consts[:4][3].S != "spare" || m.Funcs[:3][2].Code != "spare" || m.Exports[:3][2].Name != "spare" {
		t.Error("Print changes what was handed in")
	}
	// A text that was handed out is its own, also where it is short.
	for _, m := range []api.Module{consts(text("x")), consts(unit), coded("\x09")} {
		if one, two := printed(t, m), printed(t, m); shared(slices.Concat(textPiece(one), textPiece(two))) {
			t.Error("Print hands out the same memory twice")
		}
	}
}

// Nil and empty lists are one.
func TestR3EmptyLists(t *testing.T) {
	a := api.Module{Consts: []api.Value{}, Funcs: make([]api.Func, 3)[:0], Exports: make([]api.Export, 3)[:0]}
	if printed(t, a) != "" || printed(t, api.Module{}) != "" || !none(parsed(t, "")) {
		t.Error("nil and empty lists are unlike")
	}
	b, c := consts(api.Value{Kind: api.Array}), consts(api.Value{Kind: api.Array, L: units(2).L[:0], K: []string{}})
	if printed(t, b) != printed(t, c) {
		t.Error("nil and empty arrays are unlike")
	}
}
