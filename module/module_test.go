package module_test

import (
	"bytes"
	"crypto/sha256"
	"encoding/binary"
	"encoding/hex"
	"fmt"
	"math"
	"math/rand"
	"slices"
	"strings"
	"testing"
	"unsafe"

	"scruple/api"
	"scruple/hash"
	"scruple/module"
	"scruple/wire"
)

var unit = api.Value{}

func truth(n int64) api.Value { return api.Value{Kind: api.Bool, N: n} }

func number(n int64) api.Value { return api.Value{Kind: api.Int, N: n} }

func text(s string) api.Value { return api.Value{Kind: api.Bytes, S: s} }

func list(l ...api.Value) api.Value { return api.Value{Kind: api.Array, L: l} }

// record is one of keys, parted by spaces, and their values, laid down as they are told.
func record(keys string, l ...api.Value) api.Value {
	return api.Value{Kind: api.Record, K: strings.Fields(keys), L: l}
}

// arrays is x within so many arrays.
func arrays(count int, x api.Value) api.Value {
	for range count {
		x = list(x)
	}
	return x
}

// units is an array of so many units: its weight is one more.
func units(count int) api.Value { return list(make([]api.Value, count)...) }

// heavy is a value of that weight.
func heavy(weight int) api.Value { return text(strings.Repeat("h", weight-1)) }

// long is an array of so many numbers of ten bytes each.
func long(count int) api.Value {
	v := units(count)
	for i := range v.L {
		v.L[i] = number(math.MinInt64 + int64(i))
	}
	return v
}

// endless is an array that holds itself, so often.
func endless(count int) api.Value {
	v := units(count)
	for i := range v.L {
		v.L[i] = v
	}
	return v
}

// rights are right values of every kind, the deepest and the heaviest ones among them.
func rights() []api.Value {
	return []api.Value{
		unit, truth(0), truth(1), number(0), number(-1), number(math.MinInt64), number(math.MaxInt64),
		text(""), text("a"), text("\x00\xff"), heavy(2048),
		list(), list(unit), list(number(1), text("ab"), list(truth(1))), units(2047), arrays(7, unit),
		record(""), record("a", number(1)), record("a b", list(), record("c", text("d"))),
		{Kind: api.Record, K: []string{""}, L: []api.Value{unit}},
		{L: []api.Value{}, K: []string{}}, {Kind: api.Array, L: []api.Value{}, K: []string{}},
	}
}

// wrongs are values that are not right, each for one reason.
func wrongs() []api.Value {
	return []api.Value{
		{Kind: -1}, {Kind: 6}, {Kind: math.MaxInt}, {Kind: math.MinInt},
		{N: 1}, {S: "a"}, {L: []api.Value{{}}}, {K: []string{""}},
		truth(2), truth(-1), {Kind: api.Bool, S: "a"}, {Kind: api.Int, S: "a"}, {Kind: api.Bytes, N: 1},
		{Kind: api.Array, N: -1}, {Kind: api.Array, S: "a"}, {Kind: api.Array, K: []string{""}},
		{Kind: api.Record, N: 1}, {Kind: api.Record, S: "a"}, {Kind: api.Record, K: []string{""}},
		record("a", unit, unit), record("b a", unit, unit), record("a a", unit, unit), record(strings.Repeat("k", 33), unit),
		list(truth(2)), list(unit, truth(2)), record("a", truth(2)),
		heavy(2049), units(2048), list(heavy(2048)), heavy(100000), arrays(8, unit), arrays(60000, unit),
		endless(1), endless(2), endless(2000),
	}
}

// same: have two values the same, nil and empty lists being one?
func same(a, b api.Value) bool {
	return a.Kind == b.Kind && a.N == b.N && a.S == b.S && slices.Equal(a.K, b.K) && slices.EqualFunc(a.L, b.L, same)
}

func sameModule(a, b api.Module) bool {
	return slices.EqualFunc(a.Consts, b.Consts, same) && slices.Equal(a.Funcs, b.Funcs) && slices.Equal(a.Exports, b.Exports)
}

// none: is it the zero Module?
func none(m api.Module) bool { return len(m.Consts)+len(m.Funcs)+len(m.Exports) == 0 }

func fn(params, locals, stack int, code string) api.Func {
	return api.Func{Params: params, Locals: locals, Stack: stack, Code: code}
}

// as is a name for the function of that number.
func as(name string, f int) api.Export { return api.Export{Name: name, Func: f} }

func consts(l ...api.Value) api.Module { return api.Module{Consts: l} }

func funcs(l ...api.Func) api.Module { return api.Module{Funcs: l} }

// exports is a module of two functions and these names.
func exports(l ...api.Export) api.Module {
	return api.Module{Funcs: []api.Func{{}, {Code: "x"}}, Exports: l}
}

// one is the chapter's example.
func one() api.Module {
	return api.Module{Consts: []api.Value{number(5)}, Funcs: []api.Func{fn(0, 0, 1, "\x01\x00\x09")}, Exports: []api.Export{as("f", 0)}}
}

// some is a module with more than one of each thing, and none of them large.
func some() api.Module {
	return api.Module{
		Consts:  []api.Value{number(300), list(text("ab"), record("k l", unit, list())), truth(1), arrays(7, unit)},
		Funcs:   []api.Func{fn(1, 2, 3, "ab"), fn(0, 0, 0, ""), fn(8, 32, 40, "\x00\xff")},
		Exports: []api.Export{as("_", 2), as("a", 1), as("ab", 1), as("b1", 0)},
	}
}

// letters is a name of so many bytes.
func letters(count int) string { return strings.Repeat("n", count) }

// names are so many exports, by rising names, of one function.
func names(count int) []api.Export {
	var l []api.Export
	for i := range count {
		l = append(l, as(fmt.Sprintf("n%02d", i), 0))
	}
	return l
}

// coded are so many functions, each with so many bytes of code.
func coded(count, size int) []api.Func {
	var l []api.Func
	for range count {
		l = append(l, fn(0, 0, 0, strings.Repeat("c", size)))
	}
	return l
}

// goods are right modules, at all limits.
func goods() map[string]api.Module {
	out := map[string]api.Module{
		"nothing":             {},
		"empty lists":         {Consts: []api.Value{}, Funcs: []api.Func{}, Exports: []api.Export{}},
		"one":                 one(),
		"some":                some(),
		"every value":         consts(rights()...),
		"100 constants":       consts(make([]api.Value, 100)...),
		"99 constants":        consts(make([]api.Value, 99)...),
		"the same constant":   consts(number(1), number(1)),
		"24 functions":        funcs(coded(24, 0)...),
		"23 functions":        funcs(coded(23, 1)...),
		"24 exports":          {Funcs: coded(1, 0), Exports: names(24)},
		"24 of 24":            {Funcs: coded(24, 3), Exports: names(24)},
		"the most params":     funcs(fn(8, 8, 0, "")),
		"the most locals":     funcs(fn(0, 32, 0, "")),
		"the most of a stack": funcs(fn(0, 0, 40, "")),
		"the most of all":     funcs(fn(8, 32, 40, strings.Repeat("\x00", 4000))),
		"127 bytes of code":   funcs(coded(1, 127)...),
		"128 bytes of code":   funcs(coded(1, 128)...),
		"3999 bytes of code":  funcs(coded(1, 3999)...),
		"no instructions":     funcs(fn(0, 0, 0, "\x00\xff\x2a")),
		"too little on stack": funcs(fn(0, 0, 0, "\x0a\x09")),
		"the last function":   exports(as("f", 1)),
		"two of one":          exports(as("f", 1), as("g", 1)),
		"a long name":         exports(as(letters(20), 0)),
		"long names":          exports(as(letters(19), 0), as(letters(20), 1)),
		"bytewise":            exports(as("A", 0), as("Z", 0), as("_", 0), as("a", 0), as("a0", 0), as("aA", 0), as("a_", 0), as("aa", 0), as("b", 0), as("z", 0)),
	}
	for what, m := range large(65536) {
		out["65536 bytes: "+what] = m
	}
	return out
}

// bads are modules that are not right, each for one reason.
func bads() map[string]api.Module {
	out := map[string]api.Module{
		"101 constants":           consts(make([]api.Value, 101)...),
		"100000 constants":        consts(make([]api.Value, 100000)...),
		"25 functions":            funcs(coded(25, 0)...),
		"100000 functions":        funcs(coded(100000, 0)...),
		"25 exports":              {Funcs: coded(24, 0), Exports: names(25)},
		"100000 exports":          {Funcs: coded(24, 0), Exports: make([]api.Export, 100000)},
		"a long name":             exports(as(letters(21), 0)),
		"a name far too long":     exports(as(letters(100000), 0)),
		"no name":                 exports(as("", 0)),
		"no second name":          exports(as("a", 0), as("", 0)),
		"a digit":                 exports(as("1a", 0)),
		"a sign":                  exports(as("a-b", 0)),
		"a blank":                 exports(as("a ", 0)),
		"a rune":                  exports(as("é", 0)),
		"a bad name behind":       exports(as("a", 0), as("b.", 0)),
		"twice":                   exports(as("a", 0), as("a", 0)),
		"twice, of two":           exports(as("a", 0), as("a", 1)),
		"falling":                 exports(as("b", 0), as("a", 0)),
		"a beginning":             exports(as("ab", 0), as("a", 0)),
		"behind the first":        exports(as("a", 0), as("c", 0), as("b", 0)),
		"a capital":               exports(as("a", 0), as("B", 0)),
		"a low line":              exports(as("a", 0), as("_", 0)),
		"ten":                     exports(as("a9", 0), as("a10", 0)),
		"no such function":        exports(as("f", 2)),
		"no such function behind": exports(as("f", 1), as("g", 2)),
		"a function below 0":      exports(as("f", -1)),
		"the last number":         exports(as("f", math.MaxInt)),
		"the first number":        exports(as("f", math.MinInt)),
		"no function at all":      {Exports: []api.Export{as("f", 0)}},
	}
	for what, m := range large(65537) {
		out["65537 bytes: "+what] = m
	}
	for i, v := range wrongs() {
		for place := range 3 {
			l := make([]api.Value, 3)
			l[place] = v
			out[fmt.Sprintf("wrong constant %d at %d", i, place)] = consts(l...)
		}
	}
	for i, f := range []api.Func{
		fn(9, 9, 0, ""), fn(-1, 0, 0, ""), fn(-1, -1, 0, ""), fn(math.MinInt, 0, 0, ""), fn(math.MaxInt, math.MaxInt, 0, ""), fn(9, 32, 0, ""),
		fn(0, 33, 0, ""), fn(0, -1, 0, ""), fn(0, math.MaxInt, 0, ""), fn(0, math.MinInt, 0, ""), fn(1, 0, 0, ""), fn(8, 7, 0, ""),
		fn(0, 0, 41, ""), fn(0, 0, -1, ""), fn(0, 0, math.MaxInt, ""), fn(0, 0, math.MinInt, ""),
		fn(0, 0, 0, strings.Repeat("c", 4001)), fn(0, 0, 0, strings.Repeat("c", 100000)),
	} {
		for place := range 3 {
			l := coded(3, 1)
			l[place] = f
			out[fmt.Sprintf("wrong function %d at %d", i, place)] = funcs(l...)
		}
	}
	return out
}

// putNumber is a second reading of chapter 1: a number behind bytes.
func putNumber(b []byte, n uint64) []byte { return binary.AppendUvarint(b, n) }

func putText(b []byte, s string) []byte { return append(putNumber(b, uint64(len(s))), s...) }

// putValue is a second reading of chapter 4: a value's bytes behind others, whether it is right or not.
func putValue(b []byte, v api.Value) []byte {
	switch v.Kind {
	case api.Unit:
		return append(b, 0)
	case api.Bool:
		return append(b, 1+byte(v.N))
	case api.Int:
		return binary.AppendVarint(append(b, 3), v.N)
	case api.Bytes:
		return putText(append(b, 4), v.S)
	case api.Array:
		b = putNumber(append(b, 5), uint64(len(v.L)))
	case api.Record:
		b = putNumber(append(b, 6), uint64(len(v.L)))
	}
	for i, x := range v.L {
		if v.Kind == api.Record {
			b = putText(b, v.K[i])
		}
		b = putValue(b, x)
	}
	return b
}

// constBody, funcBody, exportBody are bodies of sections, with a number ahead of them, whether they are right or not.
func constBody(count uint64, l ...api.Value) []byte {
	b := putNumber(nil, count)
	for _, v := range l {
		b = putValue(b, v)
	}
	return b
}

func funcBody(count uint64, l ...api.Func) []byte {
	b := putNumber(nil, count)
	for _, f := range l {
		b = putNumber(putNumber(putNumber(b, uint64(f.Params)), uint64(f.Locals)), uint64(f.Stack))
		b = putText(b, f.Code)
	}
	return b
}

func exportBody(count uint64, l ...api.Export) []byte {
	b := putNumber(nil, count)
	for _, x := range l {
		b = putNumber(putText(b, x.Name), uint64(x.Func))
	}
	return b
}

// sections are these bodies, from section 1 on, behind the head.
func sections(bodies ...[]byte) []byte {
	b := []byte("SCM1")
	for i, body := range bodies {
		b = append(putNumber(append(b, byte(1+i)), uint64(len(body))), body...)
	}
	return b
}

// told are a module's bytes, whether it is right or not.
func told(m api.Module) []byte {
	return sections(constBody(uint64(len(m.Consts)), m.Consts...), funcBody(uint64(len(m.Funcs)), m.Funcs...), exportBody(uint64(len(m.Exports)), m.Exports...))
}

// withCode is a module with one function more, withText with one constant more: each of so many bytes.
func withCode(m api.Module, size int) api.Module {
	m.Funcs = slices.Concat(m.Funcs, coded(1, size))
	return m
}

func withText(m api.Module, size int) api.Module {
	m.Consts = slices.Concat(m.Consts, []api.Value{heavy(size + 1)})
	return m
}

// filled is m with something more, of a length in two bytes, that makes its bytes just so many.
func filled(size int, m api.Module, with func(m api.Module, size int) api.Module) api.Module {
	m = with(m, 1000+size-len(told(with(m, 1000))))
	if len(told(m)) != size {
		panic("a module of another length")
	}
	return m
}

// large are modules of just so many bytes, some 65536, that are right in all else: each meets its end elsewhere.
func large(size int) map[string]api.Module {
	var texts []api.Value
	for range 32 {
		texts = append(texts, heavy(2001))
	}
	var exports []api.Export
	for c := range 24 {
		exports = append(exports, as(string(rune('a'+c))+letters(19), 0))
	}
	half := api.Module{Consts: texts[:12], Funcs: coded(10, 3950)}
	return map[string]api.Module{
		"constants":           filled(size, api.Module{Consts: texts}, withText),
		"functions":           filled(size, api.Module{Funcs: coded(16, 4000)}, withCode),
		"both":                filled(size, half, withCode),
		"both, and constants": filled(size, half, withText),
		"exports":             filled(size, api.Module{Consts: half.Consts, Funcs: half.Funcs, Exports: exports}, withCode),
		"numbers":             filled(size, api.Module{Consts: []api.Value{long(2000), long(2000), long(1700)}, Exports: exports, Funcs: coded(1, 10)}, withCode),
	}
}

func encoded(t *testing.T, m api.Module) []byte {
	t.Helper()
	b, e := module.Encode(m)
	if e != api.OK {
		t.Fatalf("Encode: %v", e)
	}
	return b
}

func decoded(t *testing.T, b []byte) api.Module {
	t.Helper()
	m, place, e := module.Decode(b)
	if e != api.OK || place != 0 {
		t.Fatalf("Decode of %.60x: %d, %v", b, place, e)
	}
	return m
}

// unhex are the bytes that digits say; all in front of a colon stands for itself.
func unhex(t *testing.T, s string) []byte {
	t.Helper()
	head, digits, found := strings.Cut(s, ":")
	if !found {
		head, digits = "", s
	}
	b, err := hex.DecodeString(strings.ReplaceAll(digits, " ", ""))
	if err != nil {
		t.Fatal(err)
	}
	return append([]byte(head), b...)
}

// faulty: is this what Decode answers?
func faulty(t *testing.T, what string, b []byte, place int, want api.Errno) {
	t.Helper()
	if m, p, e := module.Decode(b); !none(m) || p != place || e != want {
		t.Errorf("%.60s: Decode answers %d, %v, not %d, %v", what, p, e, place, want)
	}
}

// within: is this what Decode answers of these sections, at that place of the last one's body, whatever stands behind?
func within(t *testing.T, what string, place int, want api.Errno, bodies ...[]byte) {
	t.Helper()
	b := sections(bodies...)
	place += len(b) - len(bodies[len(bodies)-1])
	for _, behind := range []string{"", "\x00", "\x02\x01\x00\x03\x01\x00", "\x03\x01\x00", strings.Repeat("\x00", 50), strings.Repeat("\xff", 50)} {
		faulty(t, fmt.Sprintf("%s (%q behind)", what, behind), slices.Concat(b, []byte(behind)), place, want)
	}
}

func TestExamples(t *testing.T) {
	empty := unhex(t, "SCM1: 01 01 00 02 01 00 03 01 00")
	if b, e := module.Encode(api.Module{}); !bytes.Equal(b, empty) || e != api.OK {
		t.Errorf("Encode of nothing: %x, %v", b, e)
	}
	if b, e := module.Encode(one()); !bytes.Equal(b, unhex(t, "SCM1: 01 03 01 03 0a 02 08 01 00 00 01 03 01 00 09 03 04 01 01 66 00")) || e != api.OK {
		t.Errorf("Encode of one: %x, %v", b, e)
	}
	for s, place := range map[string]int{"SCM1:": 4, "SCM2:": 0, "SCM1: 02 01 00": 4, "SCM1: 01 80": 5, "SCM1: 01 02 00 00 02": 7, "SCM1: 01 02 00 00 02 01 00 03 01 00": 7} {
		faulty(t, s, unhex(t, s), place, api.ErrModuleByte)
	}
	faulty(t, "101", unhex(t, "SCM1: 01 01 65"), 6, api.ErrModuleSize)
	faulty(t, "101, and more", unhex(t, "SCM1: 01 01 65 02 01 00 03 01 00"), 6, api.ErrModuleSize)
	faulty(t, "00 behind", append(empty, 0), 13, api.ErrModuleRest)
	for s, want := range map[string]bool{"a1": true, "_": true, "1a": false, "": false, letters(21): false} {
		if module.IsName(s) != want {
			t.Errorf("IsName(%q) is not %v", s, want)
		}
	}
}

// The document's examples of the whole, as far as they are this layer's.
func TestExamplesOfTheWhole(t *testing.T) {
	s := api.Module{
		Consts: []api.Value{number(1), unit}, Funcs: []api.Func{fn(1, 1, 2, "\x02\x00\x01\x00\x0a\x09\x01\x01\x09")},
		Exports: []api.Export{as("f", 0)},
	}
	b := unhex(t, "SCM1: 01 04 02 03 02 00 02 0e 01 01 01 02 09 02 00 01 00 0a 09 01 01 09 03 04 01 01 66 00")
	if got := encoded(t, s); !bytes.Equal(got, b) {
		t.Errorf("Encode: %x", got)
	}
	if !sameModule(decoded(t, b), s) {
		t.Error("Decode: another module")
	}
	under := funcs(fn(0, 0, 0, "\x0a\x09"))
	if !module.Right(under) || !sameModule(decoded(t, encoded(t, under)), under) {
		t.Error("a module that verify refuses has no bytes")
	}
}

func TestP91Right(t *testing.T) {
	for what, m := range goods() {
		if !module.Right(m) {
			t.Errorf("%s: is right", what)
		}
	}
	for what, m := range bads() {
		if module.Right(m) {
			t.Errorf("%s: is not right", what)
		}
	}
}

// All numbers about the limits, by themselves and together.
func TestP91Functions(t *testing.T) {
	for params := -2; params <= 10; params++ {
		for locals := -2; locals <= 34; locals++ {
			for stack := -2; stack <= 42; stack++ {
				want := 0 <= params && params <= 8 && params <= locals && locals <= 32 && 0 <= stack && stack <= 40
				if got := module.Right(funcs(fn(params, locals, stack, "c"))); got != want {
					t.Fatalf("Right of a function %d, %d, %d: %v", params, locals, stack, got)
				}
			}
		}
	}
	for size := 3990; size <= 4010; size++ {
		if got := module.Right(funcs(coded(1, size)...)); got != (size <= 4000) {
			t.Errorf("Right of %d bytes of code: %v", size, got)
		}
	}
}

func TestP91Counts(t *testing.T) {
	for count := range 130 {
		if got := module.Right(consts(make([]api.Value, count)...)); got != (count <= 100) {
			t.Errorf("Right of %d constants: %v", count, got)
		}
		if got := module.Right(funcs(coded(count, 0)...)); got != (count <= 24) {
			t.Errorf("Right of %d functions: %v", count, got)
		}
		for f := -1; f <= count; f++ {
			m := api.Module{Funcs: coded(count, 0), Exports: []api.Export{as("f", f)}}
			if got := module.Right(m); got != (count <= 24 && 0 <= f && f < count) {
				t.Errorf("Right of an export of %d of %d functions: %v", f, count, got)
			}
		}
	}
	for count := range 60 {
		if got := module.Right(api.Module{Funcs: coded(1, 0), Exports: names(count)}); got != (count <= 24) {
			t.Errorf("Right of %d exports: %v", count, got)
		}
	}
}

// Just what has at most 65536 bytes is right, wherever it goes beyond that; so, too, what has far more.
func TestP91Size(t *testing.T) {
	for size := 65500; size <= 65570; size++ {
		for what, m := range large(size) {
			if got := module.Right(m); got != (size <= 65536) {
				t.Errorf("Right of %d bytes (%s): %v", size, what, got)
			}
			b, e := module.Encode(m)
			if size <= 65536 && (e != api.OK || !bytes.Equal(b, told(m))) || size > 65536 && (e != api.ErrModuleForm || len(b) != 0) {
				t.Errorf("Encode of %d bytes (%s): %d, %v", size, what, len(b), e)
			}
		}
	}
	var heavies []api.Value
	for range 100 {
		heavies = append(heavies, long(2047))
	}
	for what, m := range map[string]api.Module{
		"17 of code": funcs(coded(17, 4000)...), "24 of code": funcs(coded(24, 4000)...), "100 constants": consts(heavies...),
		"3 constants": consts(heavies[:3]...), "all": {Consts: heavies, Funcs: coded(24, 4000), Exports: names(24)},
	} {
		if module.Right(m) {
			t.Errorf("%s: %d bytes are right", what, len(told(m)))
		}
	}
	if m := consts(heavies[:2]...); !module.Right(m) {
		t.Errorf("%d bytes are not right", len(told(m)))
	}
}

// name is a second reading of what a name is.
func name(s string) bool {
	const small, digits = "abcdefghijklmnopqrstuvwxyz", "0123456789"
	all := small + strings.ToUpper(small) + "_"
	if len(s) < 1 || len(s) > 20 || strings.IndexByte(digits, s[0]) >= 0 {
		return false
	}
	for _, c := range []byte(s) {
		if strings.IndexByte(all+digits, c) < 0 {
			return false
		}
	}
	return true
}

func TestP91IsName(t *testing.T) {
	right := 0
	for a := range 256 {
		for b := -1; b < 256; b++ {
			s := string([]byte{byte(a)})
			if b >= 0 {
				s += string([]byte{byte(b)})
			}
			if module.IsName(s) != name(s) {
				t.Fatalf("IsName(%q) is %v", s, !name(s))
			}
			if name(s) {
				right++
			}
		}
	}
	if right != 53+53*63 {
		t.Errorf("%d names of one byte or two", right)
	}
	for size := range 70 {
		for _, c := range []string{"a", "Z", "_"} {
			if s := strings.Repeat(c, size); module.IsName(s) != (1 <= size && size <= 20) {
				t.Errorf("IsName of %d letters", size)
			}
		}
		for place := range size {
			for _, c := range []byte{'0', '9', '/', ':', '@', '[', '`', '{', ' ', '-', '.', 0, 0x80, 0xff} {
				b := []byte(letters(size))
				b[place] = c
				if module.IsName(string(b)) != name(string(b)) {
					t.Errorf("IsName(%q)", b)
				}
			}
		}
	}
	for _, s := range []string{"é", "aé", "ñ", "ª", "１", "a１", "\u212a", "\u200b", "a\x00", strings.Repeat("é", 10), letters(100000)} {
		if module.IsName(s) {
			t.Errorf("IsName(%.20q)", s)
		}
	}
}

func TestP91Export(t *testing.T) {
	for what, m := range goods() {
		for _, x := range m.Exports {
			if f, ok := module.Export(m, x.Name); f != x.Func || !ok {
				t.Errorf("%s: Export(%q) is %d, %v", what, x.Name, f, ok)
			}
			for _, s := range []string{x.Name + "x", x.Name[1:] + "\x00", strings.ToUpper(x.Name) + "_0", " " + x.Name, x.Name + "\x00"} {
				if f, ok := module.Export(m, s); f != 0 || ok {
					t.Errorf("%s: Export(%q) is %d, %v", what, s, f, ok)
				}
			}
		}
		for _, s := range []string{"", "0", "-", "A_", letters(18), letters(21), letters(100000), "\xff"} {
			if f, ok := module.Export(m, s); f != 0 || ok {
				t.Errorf("%s: Export(%.20q) is %d, %v", what, s, f, ok)
			}
		}
	}
	for what, m := range bads() {
		m.Funcs = append(slices.Clone(m.Funcs[:min(len(m.Funcs), 30)]), fn(0, 0, 0, ""))
		if module.Right(m) {
			continue // one function more has made it right
		}
		for _, x := range append(m.Exports[:min(len(m.Exports), 30)], as("f", 0)) {
			if f, ok := module.Export(m, x.Name); f != 0 || ok {
				t.Errorf("%s: Export(%.20q) is %d, %v", what, x.Name, f, ok)
			}
		}
	}
	// What is wrong elsewhere in a module counts, too.
	for what, m := range map[string]api.Module{
		"a constant": {Consts: []api.Value{truth(2)}}, "a function behind": {Funcs: []api.Func{{}, {Stack: 41}}},
		"an export behind": {Exports: []api.Export{as("f", 1), as("e", 1)}},
	} {
		m.Funcs = append(m.Funcs, api.Func{}, api.Func{})
		m.Exports = append([]api.Export{as("a", 1)}, m.Exports...)
		if f, ok := module.Export(m, "a"); f != 0 || ok {
			t.Errorf("%s: Export is %d, %v", what, f, ok)
		}
	}
}

func TestP91Copy(t *testing.T) {
	for what, m := range goods() {
		if !sameModule(module.Copy(m), m) {
			t.Errorf("%s: Copy is another module", what)
		}
	}
	for what, m := range bads() {
		if !none(module.Copy(m)) {
			t.Errorf("%s: Copy is not the zero Module", what)
		}
	}
}

func TestP92Encode(t *testing.T) {
	for what, m := range goods() {
		if b, e := module.Encode(m); !bytes.Equal(b, told(m)) || e != api.OK {
			t.Errorf("%s: Encode is %.60x, %v, not %.60x", what, b, e, told(m))
		}
	}
}

func TestP92Digest(t *testing.T) {
	for what, m := range goods() {
		if d, e := module.Digest(m); d != sha256.Sum256(told(m)) || d != hash.Sum(told(m)) || e != api.OK {
			t.Errorf("%s: Digest is %x, %v", what, d, e)
		}
	}
}

func TestP92Refused(t *testing.T) {
	for what, m := range bads() {
		if b, e := module.Encode(m); len(b) != 0 || e != api.ErrModuleForm {
			t.Errorf("%s: Encode answers %d bytes, %v", what, len(b), e)
		}
		if d, e := module.Digest(m); d != [32]byte{} || e != api.ErrModuleForm {
			t.Errorf("%s: Digest answers %x, %v", what, d, e)
		}
	}
}

func TestP93Decode(t *testing.T) {
	for what, m := range goods() {
		got, place, e := module.Decode(told(m))
		if place != 0 || e != api.OK || !sameModule(got, m) {
			t.Errorf("%s: Decode answers %d, %v", what, place, e)
		}
	}
}

func TestP93Long(t *testing.T) {
	for _, size := range []int{65537, 65538, 70000, 1 << 20} {
		faulty(t, "bytes", make([]byte, size), 0, api.ErrModuleSize)
		faulty(t, "S", bytes.Repeat([]byte("S"), size), 0, api.ErrModuleSize)
		faulty(t, "a module and more", append(told(some()), make([]byte, size)...), 0, api.ErrModuleSize)
	}
	for what, m := range large(65537) {
		faulty(t, what, told(m), 0, api.ErrModuleSize)
	}
	for what, m := range large(65536) {
		faulty(t, what+" and one more", append(told(m), 0), 0, api.ErrModuleSize)
	}
	faulty(t, "65536 bytes", make([]byte, 65536), 0, api.ErrModuleByte)
	faulty(t, "a module, and up to 65536", append(told(some()), make([]byte, 65536-len(told(some())))...), len(told(some())), api.ErrModuleRest)
}

func TestP93Head(t *testing.T) {
	whole := told(some())
	for place := range 4 {
		faulty(t, "short", whole[:place], 0, api.ErrModuleByte)
		for c := range 256 {
			b := slices.Clone(whole)
			b[place] = byte(c)
			if byte(c) != whole[place] {
				faulty(t, fmt.Sprintf("%x at %d", c, place), b, 0, api.ErrModuleByte)
			}
		}
	}
	for _, s := range []string{"scm1", "SCM", "SCM\x001", "1MCS", "SST1\x00", " SCM1", "SCM0", "SC", "\xff"} {
		faulty(t, s, []byte(s), 0, api.ErrModuleByte)
	}
	faulty(t, "nil", nil, 0, api.ErrModuleByte)
}

// badNumbers are bytes that num.Uint refuses.
func badNumbers() []string {
	nines := strings.Repeat("ff", 9)
	return []string{"", "80", "ff", "80 00", "81 00", "80 80", "80 80 00", nines, nines + "00", nines + "02", nines + "80", nines + "ff 01", "80 81 00"}
}

func TestP93SectionNumbers(t *testing.T) {
	m := some()
	bodies := [][]byte{constBody(4, m.Consts...), funcBody(3, m.Funcs...), exportBody(4, m.Exports...)}
	whole := sections(bodies...)
	for i := range bodies {
		place := len(sections(bodies[:i]...))
		faulty(t, fmt.Sprint("no section ", i+1), whole[:place], place, api.ErrModuleByte)
		for c := range 256 {
			b := slices.Clone(whole)
			b[place] = byte(c)
			if c != i+1 {
				faulty(t, fmt.Sprint("section ", i+1, " as ", c), b, place, api.ErrModuleByte)
				faulty(t, fmt.Sprint("section ", i+1, " as ", c, " alone"), b[:place+1], place, api.ErrModuleByte)
			}
		}
	}
}

func TestP93SectionLengths(t *testing.T) {
	m := some()
	bodies := [][]byte{constBody(4, m.Consts...), funcBody(3, m.Funcs...), exportBody(4, m.Exports...)}
	for i, body := range bodies {
		ahead := append(sections(bodies[:i]...), byte(i+1))
		for _, s := range badNumbers() {
			faulty(t, fmt.Sprint("length ", s, " of ", i+1), slices.Concat(ahead, unhex(t, s)), len(ahead), api.ErrModuleByte)
			if s == "80 00" || s == "81 00" || s == "80 80 00" {
				faulty(t, fmt.Sprint("length ", s, " of ", i+1, ", and more"), slices.Concat(ahead, unhex(t, s), body), len(ahead), api.ErrModuleByte)
			}
		}
		// A body that would go beyond the end: by one byte, and by far.
		for _, n := range []uint64{uint64(len(body)) + 1, uint64(len(body)) + 2, 1000, 65536, 1 << 31, 1 << 32, 1<<32 + 3, math.MaxInt64, 1 << 63, math.MaxUint64 - 5, math.MaxUint64} {
			faulty(t, fmt.Sprint("length ", n, " of ", i+1), slices.Concat(putNumber(ahead, n), body), len(ahead), api.ErrModuleByte)
		}
		faulty(t, "a body cut off", slices.Concat(putNumber(ahead, uint64(len(body))), body[:len(body)-1]), len(ahead), api.ErrModuleByte)
		faulty(t, "a body of none", slices.Concat(putNumber(ahead, 0), body), len(ahead)+1, api.ErrModuleByte)
	}
}

// The body ends where its length says, whatever stands behind it: each thing in it is cut off there.
func TestP93BodyEnds(t *testing.T) {
	m := some()
	bodies := [][]byte{constBody(4, m.Consts...), funcBody(3, m.Funcs...), exportBody(4, m.Exports...)}
	for i, body := range bodies {
		for size := range len(body) {
			ahead := putNumber(append(sections(bodies[:i]...), byte(i+1)), uint64(size))
			_, alone, code := reading(slices.Concat(ahead, body[:size]))
			for _, behind := range [][]byte{body[size:], bytes.Repeat([]byte{0}, 50), bytes.Repeat([]byte{byte(i + 2)}, 50)} {
				_, place, e := module.Decode(slices.Concat(ahead, body[:size], behind))
				if place != alone || e != code || e != api.ErrModuleByte || place > len(ahead)+size {
					t.Errorf("%d of %d bytes of section %d: %d, %v, not %d, %v", size, len(body), i+1, place, e, alone, code)
				}
			}
		}
	}
}

func TestP93HowMany(t *testing.T) {
	bodies := [][]byte{constBody(0), funcBody(1, api.Func{}), exportBody(0)}
	for i, top := range []uint64{100, 24, 24} {
		ahead := bodies[:i:i]
		for _, s := range badNumbers() {
			within(t, "how many: "+s, 0, api.ErrModuleByte, append(ahead, unhex(t, s))...)
		}
		for _, n := range []uint64{top + 1, top + 2, 127, 128, 255, 256, 65536, 1 << 32, 1<<32 + 1, 1 << 63, math.MaxUint64} {
			within(t, fmt.Sprint("how many: ", n), 0, api.ErrModuleSize, append(ahead, putNumber(nil, n))...)
			within(t, fmt.Sprint("how many: ", n, ", and more"), 0, api.ErrModuleSize, append(ahead, append(putNumber(nil, n), make([]byte, 600)...))...)
		}
		within(t, "as many as may be, but none there", 1, api.ErrModuleByte, append(ahead, putNumber(nil, top))...)
	}
	within(t, "a constant less", 1+99, api.ErrModuleByte, constBody(100, make([]api.Value, 99)...))
	within(t, "a function less", 1+23*4, api.ErrModuleByte, constBody(0), funcBody(24, coded(23, 0)...))
	within(t, "an export less", 1+23*5, api.ErrModuleByte, constBody(0), funcBody(1, api.Func{}), exportBody(24, names(23)...))
}

// A body that goes on behind its last part.
func TestP93BodyGoesOn(t *testing.T) {
	m := some()
	bodies := [][]byte{constBody(4, m.Consts...), funcBody(3, m.Funcs...), exportBody(4, m.Exports...)}
	for i, body := range bodies {
		for _, more := range []string{"\x00", "\xff", "\x00\x00\x00\x00", "\x02\x01\x00", "\x01z\x00"} {
			within(t, fmt.Sprint("section ", i+1, " goes on"), len(body), api.ErrModuleByte, append(bodies[:i:i], append(slices.Clip(body), more...))...)
			within(t, fmt.Sprint("section ", i+1, " of none goes on"), 1, api.ErrModuleByte, append(bodies[:i:i], []byte("\x00"+more))...)
		}
	}
	within(t, "101 of 100", 1+100, api.ErrModuleByte, constBody(100, make([]api.Value, 101)...))
	within(t, "25 of 24", 1+24*4, api.ErrModuleByte, constBody(0), funcBody(24, coded(25, 0)...))
	within(t, "25 exports of 24", 1+24*5, api.ErrModuleByte, constBody(0), funcBody(1, api.Func{}), exportBody(24, names(25)...))
}

// Whatever wire refuses is refused at just its place: its size as a size, all else as bytes.
func TestP93Constants(t *testing.T) {
	seen := map[api.Errno]int{}
	for _, s := range []string{
		"", "07", "ff", "03", "03 80 00", "03 80", "04", "04 01", "04 80 00", "04 ff 0f", "04 ff ff 0f", "05", "05 01", "05 80 00", "05 ff ff 0f", "05 01 07", "05 02 00",
		"06 01", "06 01 01 6b", "06 02 01 6b 00 01 6b 00", "06 01 21", "06 ff 0f", strings.Repeat("05 01", 8) + "00", strings.Repeat("05 01", 7) + "07",
		hex.EncodeToString(putValue(nil, heavy(2049))), hex.EncodeToString(putValue(nil, units(2048))), hex.EncodeToString(putValue(nil, list(heavy(2048)))),
	} {
		v := unhex(t, s)
		_, in, e := wire.Take(v, 0)
		if e == api.OK {
			t.Fatalf("%.40s is a value", s)
		}
		want := api.ErrModuleByte
		if e == api.ErrWireSize {
			want = api.ErrModuleSize
		}
		seen[want]++
		for _, ahead := range [][]api.Value{nil, {number(1)}, {text("abc"), list(unit), truth(0)}} {
			body := constBody(uint64(len(ahead)+1), ahead...)
			within(t, s, len(body)+in, want, slices.Concat(body, v))
		}
	}
	if seen[api.ErrModuleSize] < 5 || seen[api.ErrModuleByte] < 15 {
		t.Errorf("%v: the test asks too little", seen)
	}
}

// Of each number of a function: what num.Uint refuses, and what is above its top, is wrong at its place.
func TestP93Functions(t *testing.T) {
	for ahead := range 3 {
		body := funcBody(uint64(ahead+1), coded(ahead, 2)...)
		for i, top := range []uint64{8, 32, 40} {
			what, before := fmt.Sprint(" as number ", i), slices.Concat(body, []byte{8, 32}[:i])
			place := len(before)
			for _, s := range badNumbers() {
				within(t, s+what, place, api.ErrModuleByte, constBody(0), slices.Concat(before, unhex(t, s)))
			}
			for _, n := range []uint64{top + 1, top + 2, 127, 128, 300, 1 << 32, 1<<32 + 1, 1 << 63, math.MaxUint64} {
				over := putNumber(slices.Clip(before), n)
				within(t, fmt.Sprint(n, what), place, api.ErrModuleSize, constBody(0), over)
				within(t, fmt.Sprint(n, what, ", and more"), place, api.ErrModuleSize, constBody(0), append(over, 40, 40, 0, 0))
			}
			within(t, "the top, and no more"+what, place+1, api.ErrModuleByte, constBody(0), putNumber(slices.Clip(before), top))
		}
	}
}

func TestP93Locals(t *testing.T) {
	for ahead := range 3 {
		body := funcBody(uint64(ahead+1), coded(ahead, 2)...)
		for params := range 9 {
			for locals := range 40 {
				what := fmt.Sprint(params, " params, ", locals, " locals")
				whole := slices.Concat(body, []byte{byte(params), byte(locals), 40, 0})
				switch {
				case locals > 32:
					within(t, what, len(body)+1, api.ErrModuleSize, constBody(0), whole)
				case locals < params:
					within(t, what, len(body)+1, api.ErrModuleForm, constBody(0), whole)
					within(t, what+", and no stack", len(body)+1, api.ErrModuleForm, constBody(0), whole[:len(body)+2])
				default:
					if m := decoded(t, sections(constBody(0), whole, exportBody(0))); m.Funcs[ahead] != fn(params, locals, 40, "") {
						t.Error(what, m.Funcs)
					}
				}
			}
		}
	}
}

func TestP93Code(t *testing.T) {
	for ahead := range 3 {
		body := append(funcBody(uint64(ahead+1), coded(ahead, 2)...), 1, 2, 3)
		for _, s := range badNumbers() {
			within(t, "a length "+s, len(body), api.ErrModuleByte, constBody(0), slices.Concat(body, unhex(t, s)))
		}
		for _, n := range []uint64{4001, 4002, 65535, 1 << 31, 1 << 32, 1<<32 + 1, math.MaxInt64, 1 << 63, math.MaxUint64} {
			long := putNumber(slices.Clip(body), n)
			within(t, fmt.Sprint(n, " bytes, none there"), len(body), api.ErrModuleSize, constBody(0), long)
			within(t, fmt.Sprint(n, " bytes, more there"), len(body), api.ErrModuleSize, constBody(0), append(long, make([]byte, 4010)...))
		}
		for _, n := range []int{1, 2, 127, 128, 3999, 4000} {
			short := append(putNumber(slices.Clip(body), uint64(n)), make([]byte, n-1)...)
			within(t, fmt.Sprint(n, " bytes, one missing"), len(body), api.ErrModuleByte, constBody(0), short)
			if m := decoded(t, sections(constBody(0), append(short, 7), exportBody(0))); m.Funcs[ahead] != fn(1, 2, 3, string(make([]byte, n-1))+"\x07") {
				t.Errorf("%d bytes of code are others", n)
			}
		}
	}
}

func TestP93Names(t *testing.T) {
	two := funcBody(2, coded(2, 1)...)
	for _, ahead := range [][]api.Export{nil, {as("a", 1)}, {as("A", 0), as("B_", 1)}} {
		body := exportBody(uint64(len(ahead)+1), ahead...)
		for _, s := range badNumbers() {
			within(t, "a length "+s, len(body), api.ErrModuleByte, constBody(0), two, slices.Concat(body, unhex(t, s)))
		}
		for _, n := range []uint64{21, 22, 127, 128, 1 << 32, 1<<32 + 1, math.MaxInt64, 1 << 63, math.MaxUint64} {
			long := putNumber(slices.Clip(body), n)
			within(t, fmt.Sprint(n, " bytes, none there"), len(body), api.ErrModuleSize, constBody(0), two, long)
			within(t, fmt.Sprint(n, " bytes, more there"), len(body), api.ErrModuleSize, constBody(0), two, append(long, letters(200)...))
			within(t, fmt.Sprint(n, " bytes, no name"), len(body), api.ErrModuleSize, constBody(0), two, append(long, make([]byte, 200)...))
		}
		for _, n := range []int{1, 2, 20} {
			short := append(putNumber(slices.Clip(body), uint64(n)), letters(n-1)...)
			within(t, fmt.Sprint(n, " bytes, one missing"), len(body), api.ErrModuleByte, constBody(0), two, short)
			if m := decoded(t, sections(constBody(0), two, append(short, 'n', 1))); m.Exports[len(ahead)] != as(letters(n), 1) {
				t.Errorf("a name of %d bytes is another", n)
			}
		}
		for _, s := range []string{"", "1", "1a", "9", "-", "a-", "a b", " a", "a ", "a\x00", "\x00", "é", "aé", "\xff", "a.", "a:", letters(19) + "/"} {
			bad := putText(slices.Clip(body), s)
			within(t, "no name "+s, len(body), api.ErrModuleForm, constBody(0), two, append(bad, 1))
			within(t, "no name "+s+", no function", len(body), api.ErrModuleForm, constBody(0), two, append(bad, 2))
			within(t, "no name "+s+", no more", len(body), api.ErrModuleForm, constBody(0), two, bad)
		}
	}
}

func TestP93NameOrder(t *testing.T) {
	two := funcBody(2, coded(2, 1)...)
	all := []string{"A", "Aa", "B", "Z", "Z0", "ZZ", "_", "_0", "__", "a", "a0", "a1", "a10", "a2", "a9", "aA", "a_", "aa", "ab", "b", "z", "zz", letters(19), letters(20), letters(19) + "o"}
	for _, a := range all {
		for _, b := range all {
			body := exportBody(2, as(a, 1))
			whole := append(putText(slices.Clip(body), b), 0)
			if strings.Compare(a, b) >= 0 {
				within(t, b+" behind "+a, len(body), api.ErrModuleForm, constBody(0), two, whole)
				within(t, b+" behind "+a+", no more", len(body), api.ErrModuleForm, constBody(0), two, whole[:len(whole)-1])
				continue
			}
			if m := decoded(t, sections(constBody(0), two, whole)); !slices.Equal(m.Exports, []api.Export{as(a, 1), as(b, 0)}) {
				t.Errorf("%s behind %s: %v", b, a, m.Exports)
			}
		}
	}
	// Held against the one ahead of it, not against the first one.
	body := exportBody(3, as("a", 0), as("c", 0))
	within(t, "b behind a and c", len(body), api.ErrModuleForm, constBody(0), two, append(putText(body, "b"), 0))
}

func TestP93ExportedFunctions(t *testing.T) {
	for count := range 25 {
		functions := funcBody(uint64(count), coded(count, 1)...)
		for _, ahead := range [][]api.Export{nil, {as("a", 0)}, {as("A", 0), as("B_", 0)}} {
			if count == 0 && len(ahead) > 0 {
				continue
			}
			body := putText(exportBody(uint64(len(ahead)+1), ahead...), "f")
			for _, s := range badNumbers() {
				within(t, "a function "+s, len(body), api.ErrModuleByte, constBody(0), functions, slices.Concat(body, unhex(t, s)))
			}
			for _, n := range []uint64{0, 1, 22, 23, 24, 25, 127, 128, 1 << 32, 1<<32 + 1, math.MaxInt64, 1 << 63, math.MaxUint64 - 1, math.MaxUint64} {
				whole := putNumber(slices.Clip(body), n)
				if n >= uint64(count) {
					within(t, fmt.Sprint("function ", n, " of ", count), len(body), api.ErrModuleForm, constBody(0), functions, whole)
				} else if m := decoded(t, sections(constBody(0), functions, whole)); m.Exports[len(ahead)] != as("f", int(n)) {
					t.Errorf("function %d of %d: %v", n, count, m.Exports)
				}
			}
		}
	}
}

func TestP93Rest(t *testing.T) {
	for what, m := range goods() {
		b := told(m)
		for _, more := range []string{"\x00", "\xff", "\x04\x01\x00", "\x03\x01\x00", "SCM1", string(told(api.Module{}))} {
			if len(b)+len(more) <= 65536 {
				faulty(t, what, append(slices.Clip(b), more...), len(b), api.ErrModuleRest)
			}
		}
	}
}

// stop is what is wrong with bytes, and where.
type stop struct {
	place int
	e     api.Errno
}

// sight is a second reading of P9.3: it stops at the first thing that is wrong.
type sight struct {
	b  []byte
	at int
}

func (s *sight) wrong(place int, e api.Errno) { panic(stop{place, e}) }

// number reads one that stands in its one form.
func (s *sight) number() uint64 {
	n, size := binary.Uvarint(s.b[s.at:])
	if size <= 0 || len(putNumber(nil, n)) != size {
		s.wrong(s.at, api.ErrModuleByte)
	}
	s.at += size
	return n
}

// most reads a number that is at most so much.
func (s *sight) most(top uint64, above api.Errno) int {
	place := s.at
	n := s.number()
	if n > top {
		s.wrong(place, above)
	}
	return int(n)
}

func (s *sight) text(top uint64) string {
	place := s.at
	size := s.most(top, api.ErrModuleSize)
	if len(s.b)-s.at < size {
		s.wrong(place, api.ErrModuleByte)
	}
	s.at += size
	return string(s.b[s.at-size : s.at])
}

func (s *sight) constant() api.Value {
	v, next, e := wire.Take(s.b, s.at)
	switch e {
	case api.OK:
		s.at = next
	case api.ErrWireSize:
		s.wrong(next, api.ErrModuleSize)
	default:
		s.wrong(next, api.ErrModuleByte)
	}
	return v
}

func (s *sight) function() (f api.Func) {
	f.Params = s.most(8, api.ErrModuleSize)
	place := s.at
	if f.Locals = s.most(32, api.ErrModuleSize); f.Locals < f.Params {
		s.wrong(place, api.ErrModuleForm)
	}
	f.Stack = s.most(40, api.ErrModuleSize)
	f.Code = s.text(4000)
	return f
}

func (s *sight) export(m api.Module) (x api.Export) {
	place := s.at
	x.Name = s.text(20)
	if n := len(m.Exports); !name(x.Name) || n > 0 && strings.Compare(m.Exports[n-1].Name, x.Name) >= 0 {
		s.wrong(place, api.ErrModuleForm)
	}
	place = s.at
	if n := s.number(); n >= uint64(len(m.Funcs)) {
		s.wrong(place, api.ErrModuleForm)
	} else {
		x.Func = int(n)
	}
	return x
}

func (s *sight) whole() (m api.Module) {
	all := s.b
	if !strings.HasPrefix(string(all), "SCM1") {
		s.wrong(0, api.ErrModuleByte)
	}
	s.at = 4
	for section := 1; section <= 3; section++ {
		if s.at >= len(all) || int(all[s.at]) != section {
			s.wrong(s.at, api.ErrModuleByte)
		}
		s.at++
		place := s.at
		size := s.number()
		if size > uint64(len(all)-s.at) {
			s.wrong(place, api.ErrModuleByte)
		}
		s.b = all[:s.at+int(size)]
		for range s.most([]uint64{0, 100, 24, 24}[section], api.ErrModuleSize) {
			switch section {
			case 1:
				m.Consts = append(m.Consts, s.constant())
			case 2:
				m.Funcs = append(m.Funcs, s.function())
			case 3:
				m.Exports = append(m.Exports, s.export(m))
			}
		}
		if s.at != len(s.b) {
			s.wrong(s.at, api.ErrModuleByte)
		}
		s.b = all
	}
	if s.at != len(all) {
		s.wrong(s.at, api.ErrModuleRest)
	}
	return m
}

// reading is what Decode must answer.
func reading(b []byte) (m api.Module, place int, e api.Errno) {
	if len(b) > 65536 {
		return api.Module{}, 0, api.ErrModuleSize
	}
	defer func() {
		if p, ok := recover().(stop); ok {
			m, place, e = api.Module{}, p.place, p.e
		}
	}()
	return (&sight{b: b}).whole(), 0, api.OK
}

// meet holds Decode against the second reading; what it tells is right, and is written again as the same bytes.
func meet(t *testing.T, b []byte) api.Errno {
	t.Helper()
	want, at, code := reading(b)
	m, place, e := module.Decode(b)
	if e != code || place != at || !sameModule(m, want) {
		t.Fatalf("%.80x: Decode answers %d, %v, not %d, %v", b, place, e, at, code)
	}
	if e == api.OK && (!module.Right(m) || !bytes.Equal(encoded(t, m), b)) {
		t.Fatalf("%.80x: Encode of what Decode tells are other bytes", b)
	}
	return e
}

// often: has each of these answers been met so often?
func often(t *testing.T, seen map[api.Errno]int, least int, answers ...api.Errno) {
	t.Helper()
	for _, e := range answers {
		if seen[e] < least {
			t.Errorf("%v: %d times: the test asks too little", e, seen[e])
		}
	}
}

func TestP93EveryBeginning(t *testing.T) {
	for what, m := range goods() {
		b := told(m)
		step := 1 + len(b)/3000
		for end := 0; end < len(b); end += step {
			if e := meet(t, b[:end]); e != api.ErrModuleByte {
				t.Fatalf("%s: %d bytes of %d: %v", what, end, len(b), e)
			}
		}
		meet(t, b)
	}
}

func TestP93EveryByteChanged(t *testing.T) {
	seen := map[api.Errno]int{}
	for _, m := range []api.Module{{}, one(), some(), exports(as("a", 0), as("b", 1)), funcs(fn(8, 8, 40, "code"))} {
		whole := told(m)
		for place := range whole {
			for c := range 256 {
				b := slices.Clone(whole)
				b[place] = byte(c)
				seen[meet(t, b)]++
				seen[meet(t, slices.Insert(slices.Clone(whole), place, byte(c)))]++
			}
			seen[meet(t, slices.Delete(slices.Clone(whole), place, place+1))]++
		}
	}
	often(t, seen, 100, api.OK, api.ErrModuleByte, api.ErrModuleSize, api.ErrModuleForm)
}

// Two bytes changed at once, so that a length goes with what it counts.
func TestP93TwoBytesChanged(t *testing.T) {
	seen := map[api.Errno]int{}
	for _, m := range []api.Module{one(), exports(as("a", 0), as("b", 1))} {
		whole := told(m)
		for one := 4; one < len(whole); one++ {
			for two := one + 1; two < len(whole); two++ {
				for _, c := range []int{-2, -1, 1, 2} {
					for _, d := range []int{-2, -1, 1, 2} {
						b := slices.Clone(whole)
						b[one] += byte(c)
						b[two] += byte(d)
						seen[meet(t, b)]++
						seen[meet(t, append(b, 0))]++
					}
				}
			}
		}
	}
	often(t, seen, 50, api.OK, api.ErrModuleByte, api.ErrModuleSize, api.ErrModuleForm, api.ErrModuleRest)
}

// All bodies of a few bytes, each as each section.
func TestP93EveryShortBody(t *testing.T) {
	set := []byte{0, 1, 2, 3, 25, 'a', 101, 0x80}
	seen := map[api.Errno]int{}
	var walk func(body []byte)
	walk = func(body []byte) {
		seen[meet(t, sections(body, funcBody(0), exportBody(0)))]++
		seen[meet(t, sections(constBody(0), body, exportBody(0)))]++
		seen[meet(t, sections(constBody(0), funcBody(2, coded(2, 0)...), body))]++
		if len(body) < 5 {
			for _, c := range set {
				walk(append(slices.Clip(body), c))
			}
		}
	}
	walk(nil)
	often(t, seen, 30, api.OK, api.ErrModuleByte, api.ErrModuleSize, api.ErrModuleForm)
}

var light = slices.DeleteFunc(rights(), func(v api.Value) bool { return len(putValue(nil, v)) > 100 })

// pick is one of these by chance, now and then another one.
func pick(dice *rand.Rand, top int) int {
	if dice.Intn(30) == 0 {
		return top + 1
	}
	return dice.Intn(top + 1)
}

// random is a module that has come about by chance: now and then one that is not right.
func random(dice *rand.Rand) api.Module {
	var m api.Module
	for range dice.Intn(4) {
		m.Consts = append(m.Consts, light[dice.Intn(len(light))])
	}
	for range dice.Intn(4) {
		params := pick(dice, 8)
		m.Funcs = append(m.Funcs, fn(params, max(0, params-dice.Intn(20)/19)+dice.Intn(25), pick(dice, 40), letters(dice.Intn(5))))
	}
	if len(m.Funcs) > 0 {
		for range dice.Intn(4) {
			m.Exports = append(m.Exports, as([]string{"a", "b", "Ab", "_1", letters(20), letters(19), "z9"}[dice.Intn(7)], pick(dice, len(m.Funcs)-1)))
		}
		if dice.Intn(5) > 0 {
			slices.SortFunc(m.Exports, func(a, b api.Export) int { return strings.Compare(a.Name, b.Name) })
			m.Exports = slices.CompactFunc(m.Exports, func(a, b api.Export) bool { return a.Name == b.Name })
		}
	}
	return m
}

// Encode takes just what Decode tells: a module is right just if its bytes, laid as they are, are read as it.
func TestP93Random(t *testing.T) {
	dice := rand.New(rand.NewSource(1))
	seen := map[api.Errno]int{}
	for range 20000 {
		m := random(dice)
		b := told(m)
		e := meet(t, b)
		if module.Right(m) != (e == api.OK) {
			t.Fatalf("%v: Right is %v, Decode of its bytes answers %v", m, module.Right(m), e)
		}
		seen[e]++
		junk := make([]byte, dice.Intn(30))
		for i := range junk {
			junk[i] = byte(dice.Intn(1 << (1 + dice.Intn(8))))
		}
		seen[meet(t, junk)]++
		seen[meet(t, append([]byte("SCM1"), junk...))]++
		seen[meet(t, append(b, junk[:min(len(junk), dice.Intn(2))]...))]++
	}
	often(t, seen, 300, api.OK, api.ErrModuleByte, api.ErrModuleSize, api.ErrModuleForm, api.ErrModuleRest)
}

// piece is some memory: a list with its spare room, or a text.
type piece struct{ from, to uintptr }

func listPiece[T any](l []T) []piece {
	if cap(l) == 0 {
		return nil
	}
	from := uintptr(unsafe.Pointer(unsafe.SliceData(l)))
	return []piece{{from, from + uintptr(cap(l))*unsafe.Sizeof(l[:1][0])}}
}

func textPiece(s string) []piece {
	if s == "" {
		return nil
	}
	from := uintptr(unsafe.Pointer(unsafe.StringData(s)))
	return []piece{{from, from + uintptr(len(s))}}
}

func valuePieces(v api.Value) []piece {
	out := slices.Concat(listPiece(v.L), listPiece(v.K), textPiece(v.S))
	for _, key := range v.K {
		out = append(out, textPiece(key)...)
	}
	for _, x := range v.L {
		out = append(out, valuePieces(x)...)
	}
	return out
}

func pieces(m api.Module) []piece {
	out := slices.Concat(listPiece(m.Consts), listPiece(m.Funcs), listPiece(m.Exports))
	for _, v := range m.Consts {
		out = append(out, valuePieces(v)...)
	}
	for _, f := range m.Funcs {
		out = append(out, textPiece(f.Code)...)
	}
	for _, x := range m.Exports {
		out = append(out, textPiece(x.Name)...)
	}
	return out
}

// shared: does one of these pieces meet another one of them, or one of those that were given?
func shared(answer []piece, given ...[]piece) bool {
	for i, a := range answer {
		for _, b := range slices.Concat(answer[i+1:], slices.Concat(given...)) {
			if a.from < b.to && b.from < a.to {
				return true
			}
		}
	}
	return false
}

// given is a module some parts of which are the same memory, with spare room behind each list.
func given() api.Module {
	inner := list(text(strings.Clone("inner")))
	v := record("one two", inner, inner)
	code := strings.Clone("code of both")
	m := api.Module{
		Consts:  []api.Value{v, v, text(code), text("spare")},
		Funcs:   []api.Func{fn(0, 0, 0, code), fn(0, 0, 0, code), fn(0, 0, 0, "spare")},
		Exports: []api.Export{as(code[:4], 0), as(code[:4]+"_", 1), as("spare", 0)},
	}
	m.Consts, m.Funcs, m.Exports = m.Consts[:3], m.Funcs[:2], m.Exports[:2]
	return m
}

// left: is it still that module, with the same behind each list?
func left(m api.Module) bool {
	return sameModule(m, given()) && m.Consts[:4][3].S == "spare" && m.Funcs[:3][2].Code == "spare" && m.Exports[:3][2].Name == "spare"
}

func TestP94Copy(t *testing.T) {
	m := given()
	a, b := module.Copy(m), module.Copy(m)
	if shared(slices.Concat(pieces(a), pieces(b)), pieces(m)) || !left(m) {
		t.Error("Copy shares memory, or changes what was handed in")
	}
	a.Consts[0].L[0].L[0].S = "other"
	a.Consts[0].K[0] = "other"
	a.Consts[2], a.Funcs[0], a.Exports[0] = unit, api.Func{}, as("x", 1)
	if !left(m) || !sameModule(b, m) {
		t.Error("what is written into one module is seen in another one")
	}
}

func TestP94Bytes(t *testing.T) {
	m := given()
	one, e := module.Encode(m)
	two, f := module.Encode(m)
	if e != api.OK || f != api.OK || shared(slices.Concat(listPiece(one), listPiece(two)), pieces(m)) || !left(m) {
		t.Error("Encode shares memory", e, f)
	}
	b := append(slices.Clone(one), "spare"...)[:len(one)]
	a, _, e := module.Decode(b)
	c, _, f := module.Decode(b)
	if e != api.OK || f != api.OK || shared(slices.Concat(pieces(a), pieces(c)), listPiece(b)) {
		t.Error("Decode shares memory", e, f)
	}
	if !bytes.Equal(b, one) || string(b[:len(b)+5][len(b):]) != "spare" {
		t.Error("Decode writes into what was handed in")
	}
	clear(b[:cap(b)])
	clear(two[:cap(two)])
	if !sameModule(a, m) || !sameModule(decoded(t, one), m) {
		t.Error("what Decode told has gone with the bytes")
	}
}

// What only asks, and what refuses, leaves what was handed in as it was, too.
func TestP94Asked(t *testing.T) {
	m := given()
	module.Right(m)
	module.Digest(m)
	module.Export(m, "code")
	if !left(m) {
		t.Error("what was asked has changed")
	}
	m.Funcs[1].Stack = 41
	module.Right(m)
	module.Encode(m)
	module.Digest(m)
	module.Export(m, "code")
	module.Copy(m)
	m.Funcs[1].Stack = 0
	if !left(m) {
		t.Error("what was refused has changed")
	}
}

func TestP95ThereAndBack(t *testing.T) {
	for what, m := range goods() {
		b := encoded(t, m)
		if !sameModule(decoded(t, b), m) {
			t.Errorf("%s: Decode of Encode is another module", what)
		}
		if again := encoded(t, decoded(t, b)); !bytes.Equal(again, b) {
			t.Errorf("%s: Encode of what Decode tells are other bytes", what)
		}
	}
}

func TestP95Unlike(t *testing.T) {
	var all []api.Module
	for _, c := range [][]api.Value{nil, {unit}, {truth(0)}, {number(0)}, {text("\x00")}, {list(unit)}, {unit, unit}, {number(1), unit}} {
		for _, f := range [][]api.Func{{{}}, {{}, {}}, {{Locals: 1}}, {{Stack: 1}}, {fn(1, 1, 0, "")}, {{Code: "\x00"}}, {{}, {Code: "a"}}} {
			for _, x := range [][]api.Export{nil, {as("a", 0)}, {as("b", 0)}, {as("a", 0), as("b", 0)}, {as("ab", 0)}, {as("a", len(f)-1), as("c", 0)}} {
				if len(f) > 1 || x == nil || len(x) < 2 || x[1].Name != "c" {
					all = append(all, api.Module{Consts: c, Funcs: f, Exports: x})
				}
			}
		}
	}
	all = append(all, api.Module{}, some(), exports(as("f", 1)))
	rows, digests := make([][]byte, len(all)), map[[32]byte]bool{}
	for i, m := range all {
		rows[i] = encoded(t, m)
		d, _ := module.Digest(m)
		digests[d] = true
	}
	for i, a := range rows {
		for j, b := range rows {
			if i != j && bytes.HasPrefix(a, b) {
				t.Fatalf("%.60x begins with %.60x", a, b)
			}
		}
	}
	if len(digests) != len(all) || len(all) < 280 {
		t.Errorf("%d digests of %d modules", len(digests), len(all))
	}
}

// Nil and empty lists are one.
func TestR3EmptyLists(t *testing.T) {
	a, b := api.Module{}, api.Module{Consts: []api.Value{}, Funcs: coded(3, 1)[:0], Exports: names(3)[:0]}
	if !module.Right(a) || !module.Right(b) || !bytes.Equal(encoded(t, a), encoded(t, b)) || !none(module.Copy(b)) || !none(decoded(t, encoded(t, b))) {
		t.Error("nil and empty lists are unlike")
	}
	c, d := consts(api.Value{Kind: api.Array}), consts(api.Value{Kind: api.Array, L: units(2).L[:0], K: []string{}})
	if !bytes.Equal(encoded(t, c), encoded(t, d)) {
		t.Error("nil and empty arrays are unlike")
	}
}
