package prim_test

import (
	"crypto/sha256"
	"fmt"
	"maps"
	"math"
	"math/big"
	"math/rand"
	"reflect"
	"regexp"
	"slices"
	"strings"
	"testing"
	"unsafe"

	"scruple/api"
	"scruple/hash"
	"scruple/prim"
	"scruple/wire"
)

var unit = api.Value{}

func truth(is bool) api.Value {
	if is {
		return api.Value{Kind: api.Bool, N: 1}
	}
	return api.Value{Kind: api.Bool}
}

func number(n int64) api.Value { return api.Value{Kind: api.Int, N: n} }

func text(s string) api.Value { return api.Value{Kind: api.Bytes, S: s} }

// long is Bytes of so many bytes: its weight is one more.
func long(count int) api.Value { return text(strings.Repeat("x", count)) }

func list(l ...api.Value) api.Value { return api.Value{Kind: api.Array, L: l} }

// texts is an array of words.
func texts(words ...string) api.Value {
	out := list()
	for _, w := range words {
		out.L = append(out.L, text(w))
	}
	return out
}

// record is one of keys, parted by spaces, and their values, laid down as they are told.
func record(keys string, l ...api.Value) api.Value {
	return api.Value{Kind: api.Record, K: strings.Fields(keys), L: l}
}

// under is a record of one key.
func under(key string, x api.Value) api.Value {
	return api.Value{Kind: api.Record, K: []string{key}, L: []api.Value{x}}
}

// arrays is x within so many arrays.
func arrays(count int, x api.Value) api.Value {
	for range count {
		x = list(x)
	}
	return x
}

// units is an array of so many units: its weight is one more.
func units(count int) api.Value { return list(make([]api.Value, count)...) }

// names are so many, no two the same, each of three bytes, falling.
func names(count int) []string {
	var out []string
	for i := range count {
		out = append(out, fmt.Sprintf("%03d", 999-i))
	}
	return out
}

// endless is an array that holds itself, so often.
func endless(count int) api.Value {
	v := units(count)
	for i := range v.L {
		v.L[i] = v
	}
	return v
}

func args(l ...api.Value) []api.Value { return l }

// same: element by element, by what the document says of two values.
func same(a, b api.Value) bool {
	return a.Kind == b.Kind && a.N == b.N && a.S == b.S && slices.Equal(a.K, b.K) && slices.EqualFunc(a.L, b.L, same)
}

func zero(v api.Value) bool { return reflect.DeepEqual(v, api.Value{}) }

// brief is enough of something to find it by.
func brief(x any) string { return fmt.Sprintf("%.120s", fmt.Sprint(x)) }

var longKey = strings.Repeat("k", 32)

// document is what DOC.md's table says of the pure operations, from 10 on: how many values each takes. Of array and
// record another thing says it.
const document = `add 2, sub 2, mul 2, div 2, rem 2, neg 1, not 1, eq 2, ne 2, lt 2, le 2, gt 2, ge 2, array -1, record -1,
index 2, field 1, len 1, push 2, change 3, slice 3, with 3, without 2, keys 1, has 2, kind 1, digest 1, abort 1`

const first, last = 10, 37

// pure is a row of the document.
type pure struct {
	name  string
	takes int
}

func rows() map[int]pure {
	out := map[int]pure{}
	for i, row := range strings.Split(document, ",") {
		var p pure
		if _, err := fmt.Sscan(row, &p.name, &p.takes); err != nil {
			panic(err)
		}
		out[first+i] = p
	}
	return out
}

// pures are the document's rows by the operations' numbers.
var pures = rows()

// forms are the kinds that each operation takes, a letter each: Unit, a truth, an Int, Bytes, an Array, a Record.
var forms = map[string]*regexp.Regexp{}

func init() {
	for _, row := range strings.Fields(`add=ii|bb|aa sub=ii mul=ii div=ii rem=ii neg=i not=t eq=.. ne=.. lt=ii|bb le=ii|bb
		gt=ii|bb ge=ii|bb array=.{0,40} record=.* index=[ab]i field=r len=[bar] push=a. change=ai. slice=[ab]ii with=rb.
		without=rb keys=r has=rb kind=. digest=. abort=.`) {
		name, form, _ := strings.Cut(row, "=")
		forms[name] = regexp.MustCompile("^(?:" + form + ")$")
	}
}

func letters(l []api.Value) string {
	var out strings.Builder
	for _, v := range l {
		out.WriteByte("utibar"[v.Kind])
	}
	return out.String()
}

// weigh is what the document's table says of a value, from its innermost values outwards: weight and depth, 0 of one
// that is not right. What holds itself is none for it.
func weigh(v api.Value) (weight, depth int) {
	weight = 1
	unused := v
	unused.Kind = 0
	switch v.Kind {
	case api.Unit:
	case api.Bool:
		if v.N == 0 || v.N == 1 {
			unused.N = 0
		}
	case api.Int:
		unused.N = 0
	case api.Bytes:
		unused.S = ""
		weight += len(v.S)
	case api.Array:
		unused.L = nil
	case api.Record:
		unused.L, unused.K = nil, nil
		for i, key := range v.K {
			weight += 1 + len(key)
			if len(v.K) != len(v.L) || len(key) > 32 || i > 0 && v.K[i-1] >= key {
				return 0, 0
			}
		}
		if len(v.K) != len(v.L) {
			return 0, 0
		}
	default:
		return 0, 0
	}
	for _, x := range v.L {
		w, d := weigh(x)
		if w == 0 {
			return 0, 0
		}
		weight += w
		depth = max(depth, d)
	}
	if depth++; !same(unused, unit) || weight > 2048 || depth > 8 {
		return 0, 0
	}
	return weight, depth
}

func right(v api.Value) bool {
	weight, _ := weigh(v)
	return weight > 0
}

// round is a number of any size as one of 64 bits.
func round(n *big.Int) api.Value {
	low := new(big.Int).And(n, new(big.Int).SetUint64(math.MaxUint64))
	return number(int64(low.Uint64()))
}

// unsized is TrapSize, if what would be given is not right.
func unsized(v api.Value) (api.Value, int) {
	if !right(v) {
		return unit, api.TrapSize
	}
	return v, 0
}

// laid is a record of a map's entries.
func laid(m map[string]api.Value) api.Value {
	out := api.Value{Kind: api.Record, K: slices.Sorted(maps.Keys(m))}
	for _, key := range out.K {
		out.L = append(out.L, m[key])
	}
	return out
}

// entries are a record's.
func entries(r api.Value) map[string]api.Value {
	out := map[string]api.Value{}
	for i, key := range r.K {
		out[key] = r.L[i]
	}
	return out
}

// keysOf are the keys that a record's constant names; false: it is none.
func keysOf(v api.Value, count int) ([]string, bool) {
	var out []string
	for _, x := range v.L {
		if x.Kind != api.Bytes || len(x.S) > 32 || slices.Contains(out, x.S) {
			return nil, false
		}
		out = append(out, x.S)
	}
	return out, v.Kind == api.Array && len(out) <= 40 && len(out) == count
}

// wanted works out what an operation makes of values, from the chapter's words: a second reading of it.
func wanted(op int, extra api.Value, l []api.Value) (api.Value, int) {
	p, ok := pures[op]
	if !ok || !right(extra) || slices.ContainsFunc(l, func(v api.Value) bool { return !right(v) }) {
		return unit, api.TrapType
	}
	if !forms[p.name].MatchString(letters(l)) {
		return unit, api.TrapType
	}
	switch p.name {
	case "array":
		return unsized(list(l...))
	case "record":
		return wantedRecord(extra, l)
	case "field":
		if extra.Kind != api.Bytes {
			return unit, api.TrapType
		}
		return wantedOf("field", append(l, extra))
	}
	if letters(l) == "ii" {
		return wantedNumber(p.name, big.NewInt(l[0].N), big.NewInt(l[1].N))
	}
	return wantedOf(p.name, l)
}

func wantedRecord(extra api.Value, l []api.Value) (api.Value, int) {
	keys, ok := keysOf(extra, len(l))
	if !ok {
		return unit, api.TrapType
	}
	m := map[string]api.Value{}
	for i, key := range keys {
		m[key] = l[i]
	}
	return unsized(laid(m))
}

// wantedNumber is of two Ints.
func wantedNumber(name string, a, b *big.Int) (api.Value, int) {
	out := new(big.Int)
	switch name {
	case "add":
		return round(out.Add(a, b)), 0
	case "sub":
		return round(out.Sub(a, b)), 0
	case "mul":
		return round(out.Mul(a, b)), 0
	case "div", "rem":
		if b.Sign() == 0 {
			return unit, api.TrapDivide
		}
		quotient, rest := out.QuoRem(a, b, new(big.Int))
		if name == "rem" {
			return round(rest), 0
		}
		return round(quotient), 0
	}
	return wantedOrder(name, a.Cmp(b)), 0
}

func wantedOrder(name string, c int) api.Value {
	signs := map[string][]int{"eq": {0}, "ne": {-1, 1}, "lt": {-1}, "le": {-1, 0}, "gt": {1}, "ge": {0, 1}}
	return truth(slices.Contains(signs[name], c))
}

// wantedOf is of values of the kinds that it asks for; field has its constant behind what it takes.
func wantedOf(name string, l []api.Value) (api.Value, int) {
	a := l[0]
	size := int64(max(len(a.S), len(a.L)))
	switch name {
	case "add":
		if a.Kind == api.Bytes {
			return unsized(text(strings.Join([]string{a.S, l[1].S}, "")))
		}
		return unsized(list(slices.Concat(a.L, l[1].L)...))
	case "neg":
		return round(new(big.Int).Neg(big.NewInt(a.N))), 0
	case "not":
		return truth(a.N == 0), 0
	case "eq":
		return truth(same(a, l[1])), 0
	case "ne":
		return truth(!same(a, l[1])), 0
	case "lt", "le", "gt", "ge":
		return wantedOrder(name, strings.Compare(a.S, l[1].S)), 0
	case "len":
		return number(size), 0
	case "kind":
		return number(int64(a.Kind)), 0
	case "digest":
		b, _ := wire.Encode(a)
		d := sha256.Sum256(b)
		return text(string(d[:])), 0
	case "abort":
		return unit, api.TrapAbort
	case "push":
		return unsized(list(append(slices.Clone(a.L), l[1])...))
	case "index", "change", "slice":
		return wantedPlace(name, l, size)
	}
	return wantedKey(name, l)
}

// wantedPlace is of an array or bytes, and places there.
func wantedPlace(name string, l []api.Value, size int64) (api.Value, int) {
	a, i := l[0], l[1].N
	if name == "slice" {
		j := l[2].N
		if !(0 <= i && i <= j && j <= size) {
			return unit, api.TrapIndex
		}
		out := api.Value{Kind: a.Kind}
		for ; i < j; i++ {
			if a.Kind == api.Bytes {
				out.S += string([]byte{a.S[i]})
			} else {
				out.L = append(out.L, a.L[i])
			}
		}
		return out, 0
	}
	if !(0 <= i && i <= size-1) {
		return unit, api.TrapIndex
	}
	if name == "change" {
		return unsized(list(slices.Concat(a.L[:i], l[2:], a.L[i+1:])...))
	}
	if a.Kind == api.Bytes {
		return number(int64([]byte(a.S)[i])), 0
	}
	return a.L[i], 0
}

// wantedKey is of a record, and one of its keys.
func wantedKey(name string, l []api.Value) (api.Value, int) {
	m := entries(l[0])
	if name == "keys" {
		return texts(slices.Sorted(maps.Keys(m))...), 0
	}
	key := l[1].S
	x, found := m[key]
	switch name {
	case "has":
		return truth(found), 0
	case "with":
		if len(key) > 32 {
			return unit, api.TrapKey
		}
		m[key] = l[2]
		return unsized(laid(m))
	}
	if !found {
		return unit, api.TrapKey
	}
	if name == "without" {
		delete(m, key)
		return laid(m), 0
	}
	return x, 0
}

// piece is some memory of a value: a list with its spare room, or a text.
type piece struct{ from, to uintptr }

func listPiece[T any](l []T) []piece {
	if cap(l) == 0 {
		return nil
	}
	from := uintptr(unsafe.Pointer(unsafe.SliceData(l)))
	return []piece{{from, from + uintptr(cap(l))*unsafe.Sizeof(l[:1][0])}}
}

func textPiece(s string) []piece {
	if s == "" {
		return nil
	}
	from := uintptr(unsafe.Pointer(unsafe.StringData(s)))
	return []piece{{from, from + uintptr(len(s))}}
}

func pieces(v api.Value) []piece {
	out := slices.Concat(listPiece(v.L), listPiece(v.K), textPiece(v.S))
	for _, key := range v.K {
		out = append(out, textPiece(key)...)
	}
	for _, x := range v.L {
		out = append(out, pieces(x)...)
	}
	return out
}

// shared: does one of an answer's pieces meet another one of it, or one that was handed in?
func shared(answer, given []piece) bool {
	slices.SortFunc(answer, func(a, b piece) int { return int(a.from) - int(b.from) })
	for i := 1; i < len(answer); i++ {
		if answer[i].from < answer[i-1].to {
			return true
		}
	}
	for _, g := range given {
		i, _ := slices.BinarySearchFunc(answer, g.from, func(p piece, at uintptr) int { return int(p.to) - int(at) })
		for ; i < len(answer) && answer[i].from < g.to; i++ {
			if answer[i].to > g.from {
				return true
			}
		}
	}
	return false
}

// fresh makes a value with spare room in its lists, whose texts are no constants.
func fresh(v api.Value) api.Value {
	out := api.Value{Kind: v.Kind, N: v.N, S: strings.Clone(v.S), L: freshList(v.L), K: make([]string, 0, len(v.K)+2)}
	for _, key := range v.K {
		out.K = append(out.K, strings.Clone(key))
	}
	for i := range 2 {
		out.K[:cap(out.K)][len(out.K)+i] = "spare"
	}
	return out
}

func freshList(l []api.Value) []api.Value {
	out := make([]api.Value, len(l), len(l)+2)
	for i, x := range l {
		out[i] = fresh(x)
	}
	out[:cap(out)][len(l)], out[:cap(out)][len(l)+1] = number(77), number(78)
	return out
}

// untouched: is what fresh made of v still so, its spare room too?
func untouched(made, v api.Value) bool {
	if !same(made, v) || !untouchedList(made.L, v.L) {
		return false
	}
	for i := range 2 {
		if made.K[:cap(made.K)][len(made.K)+i] != "spare" {
			return false
		}
	}
	return true
}

func untouchedList(made, l []api.Value) bool {
	spare := made[:cap(made)][len(made):]
	if len(made) != len(l) || !same(spare[0], number(77)) || !same(spare[1], number(78)) {
		return false
	}
	for i := range l {
		if !untouched(made[i], l[i]) {
			return false
		}
	}
	return true
}

// answers holds what Do answers against one answer.
func answers(t *testing.T, op int, extra api.Value, l []api.Value, want api.Value, wantTrap int) {
	t.Helper()
	v, trap := prim.Do(op, extra, l)
	if trap != wantTrap || !same(v, want) {
		t.Fatalf("Do(%s, %s, %s) = %s, %d, want %s, %d", pures[op].name, brief(extra), brief(l), brief(v), trap, brief(want), wantTrap)
	}
	if trap != 0 && !zero(v) {
		t.Fatalf("Do(%s, %s, %s): %s beside the trap %d", pures[op].name, brief(extra), brief(l), brief(v), trap)
	}
}

// try holds what Do answers against the second reading, and that it has neither written into, nor kept, what was handed
// in. How it ended: a trap, or 0.
func try(t *testing.T, op int, extra api.Value, l ...api.Value) int {
	t.Helper()
	want, trap := wanted(op, extra, slices.Clone(l))
	givenExtra, given := fresh(extra), freshList(l)
	v, gotTrap := prim.Do(op, givenExtra, given)
	what := fmt.Sprintf("Do(%d %s, %s, %s)", op, pures[op].name, brief(extra), brief(l))
	if gotTrap != trap || !same(v, want) || trap != 0 && !zero(v) {
		t.Fatalf("%s = %s, %d, want %s, %d", what, brief(v), gotTrap, brief(want), trap)
	}
	if !untouched(givenExtra, extra) || !untouchedList(given, l) {
		t.Fatalf("%s has written into what it was given", what)
	}
	if !right(v) {
		t.Fatalf("%s gives %s, which is not right", what, brief(v))
	}
	if shared(pieces(v), pieces(list(append(given[:len(given):len(given)], givenExtra)...))) {
		t.Fatalf("%s = %s shares memory", what, brief(v))
	}
	return trap
}

func TestExamplesDo(t *testing.T) {
	none := unit
	a1 := under("a", number(1))
	d := hash.Sum([]byte{0})
	for _, x := range []struct {
		op    int
		extra api.Value
		args  []api.Value
		want  api.Value
		trap  int
	}{
		{api.OpAdd, none, args(number(math.MaxInt64), number(1)), number(math.MinInt64), 0},
		{api.OpAdd, none, args(text("ab"), text("c")), text("abc"), 0},
		{api.OpAdd, none, args(number(1), text("c")), none, api.TrapType},
		{api.OpDiv, none, args(number(-7), number(2)), number(-3), 0},
		{api.OpRem, none, args(number(-7), number(2)), number(-1), 0},
		{api.OpDiv, none, args(number(1), number(0)), none, api.TrapDivide},
		{api.OpDiv, none, args(number(math.MinInt64), number(-1)), number(math.MinInt64), 0},
		{api.OpIndex, none, args(text("ab"), number(1)), number(98), 0},
		{api.OpIndex, none, args(list(number(1)), number(1)), none, api.TrapIndex},
		{api.OpIndex, none, args(list(number(1)), number(-1)), none, api.TrapIndex},
		{api.OpSlice, none, args(text("abc"), number(1), number(3)), text("bc"), 0},
		{api.OpSlice, none, args(text("abc"), number(2), number(1)), none, api.TrapIndex},
		{api.OpSlice, none, args(list(), number(0), number(0)), list(), 0},
		{api.OpRecord, texts("b", "a"), args(number(1), number(2)), record("a b", number(2), number(1)), 0},
		{api.OpRecord, texts("a", "a"), args(number(1), number(2)), none, api.TrapType},
		{api.OpField, text("a"), args(a1), number(1), 0},
		{api.OpField, text("b"), args(a1), none, api.TrapKey},
		{api.OpWithout, none, args(a1, text("b")), none, api.TrapKey},
		{api.OpAdd, none, args(long(2047), text("y")), none, api.TrapSize},
		{api.OpWith, none, args(record(""), long(33), number(1)), none, api.TrapKey},
		{api.OpDigest, none, args(unit), text(string(d[:])), 0},
		{api.OpConst, none, nil, none, api.TrapType},
		{api.OpLoad, none, args(text("a")), none, api.TrapType},
		{api.OpLen, none, args(list(), list()), none, api.TrapType},
	} {
		answers(t, x.op, x.extra, x.args, x.want, x.trap)
	}
}

func takes(t *testing.T, op, operand int, extra api.Value, want int) {
	t.Helper()
	if n := prim.Takes(op, operand, extra); n != want {
		t.Errorf("Takes(%d, %d, %s) = %d, want %d", op, operand, brief(extra), n, want)
	}
}

func TestExamplesTakes(t *testing.T) {
	takes(t, api.OpArray, 3, unit, 3)
	takes(t, api.OpRecord, 0, texts("a", "b"), 2)
	takes(t, api.OpSlice, 0, unit, 3)
	takes(t, api.OpLoad, 0, unit, 0)
}

// strange are numbers of no operation.
var strange = []int{0, -1, -10, 42, 43, 100, 255, 256, 266, 1 << 16, 1<<16 + 10, 1 << 32, 1<<32 + 10, math.MaxInt32, math.MinInt32, math.MaxInt, math.MinInt}

func TestP131Pure(t *testing.T) {
	for op := -300; op <= 600; op++ {
		if prim.Pure(op) != (op >= first && op <= last) {
			t.Errorf("Pure(%d) = %t", op, prim.Pure(op))
		}
	}
	for _, op := range strange {
		if prim.Pure(op) {
			t.Errorf("Pure(%d)", op)
		}
	}
	if first != api.OpAdd || last != api.OpAbort || len(pures) != last-first+1 || pures[last].name != "abort" {
		t.Error("the document's rows are not those of api")
	}
}

// wrongs are values that are not right, each for one reason.
var wrongs = []api.Value{
	{Kind: -1}, {Kind: 6}, {Kind: 7}, {Kind: 64}, {Kind: 68}, {Kind: math.MaxInt}, {Kind: math.MinInt},
	{N: 1}, {S: "a"}, {L: []api.Value{{}}}, {K: []string{""}},
	{Kind: api.Bool, N: 2}, {Kind: api.Bool, N: -1}, {Kind: api.Bool, S: "a"}, {Kind: api.Int, S: "a"}, {Kind: api.Int, K: []string{""}},
	{Kind: api.Bytes, N: 1}, {Kind: api.Bytes, L: []api.Value{{}}}, {Kind: api.Array, N: -1}, {Kind: api.Array, S: "a"},
	{Kind: api.Array, L: []api.Value{{}}, K: []string{""}}, {Kind: api.Record, N: 1}, {Kind: api.Record, L: []api.Value{{}}}, {Kind: api.Record, K: []string{""}},
	record("b a", unit, unit), record("a a", unit, unit), record("a", unit, unit), record("a b", unit), under(longKey+"k", unit),
	list(api.Value{Kind: 6}), list(text("a"), api.Value{N: 1}), under("a", api.Value{Kind: -1}), arrays(7, api.Value{S: "a"}),
	long(2048), units(2048), list(long(2047)), arrays(8, unit), arrays(60000, unit), endless(1), endless(2), endless(2000),
}

func TestP131TakesOfArray(t *testing.T) {
	for operand := -50; operand <= 300; operand++ {
		want := 0
		if operand >= 0 && operand <= 40 {
			want = operand
		}
		for _, extra := range []api.Value{unit, texts("a", "b"), wrongs[0]} {
			takes(t, api.OpArray, operand, extra, want)
		}
	}
	for _, operand := range []int{math.MaxInt, math.MinInt, math.MaxInt32, math.MinInt32, 1 << 32, 1<<32 + 3, -1 << 32} {
		takes(t, api.OpArray, operand, unit, 0)
	}
}

func TestP131TakesOfRecord(t *testing.T) {
	for count := range 45 {
		want := count
		if count > 40 {
			want = 0
		}
		for _, operand := range []int{0, 1, 40, 41, -1, math.MaxInt} {
			takes(t, api.OpRecord, operand, texts(names(count)...), want)
			// Whether these may be keys is not asked.
			takes(t, api.OpRecord, operand, units(count), want)
			takes(t, api.OpRecord, operand, texts(make([]string, count)...), want)
		}
		takes(t, api.OpRecord, 0, api.Value{Kind: api.Record, K: slices.Sorted(slices.Values(names(count))), L: make([]api.Value, count)}, 0)
	}
	takes(t, api.OpRecord, 3, units(2047), 0)
	takes(t, api.OpRecord, 3, list(long(2046)), 1)
	takes(t, api.OpRecord, 3, list(long(2047)), 0)
	takes(t, api.OpRecord, 3, list(arrays(6, unit), unit), 2)
	takes(t, api.OpRecord, 3, list(arrays(7, unit), unit), 0)
	for _, extra := range append(wrongs, unit, truth(true), number(3), text("abc"), under("a", unit)) {
		takes(t, api.OpRecord, 3, extra, 0)
	}
}

func TestP131TakesOfOthers(t *testing.T) {
	extras := append(slices.Clone(wrongs), unit, number(4), text("a"), texts("a", "b"))
	for _, operand := range []int{0, 1, 3, 40, 41, -1, math.MaxInt, math.MinInt} {
		for _, extra := range extras {
			for op := -2; op <= 45; op++ {
				if op != api.OpArray && op != api.OpRecord {
					takes(t, op, operand, extra, pures[op].takes)
				}
			}
			for _, op := range strange {
				takes(t, op, operand, extra, 0)
			}
		}
	}
}

// call is one of an operation.
type call struct {
	extra api.Value
	args  []api.Value
}

// plains are calls that give something (abort: that traps by itself alone).
func plains() map[int]call {
	r := record("a b", number(1), list(unit))
	out := map[int]call{
		api.OpNot: {unit, args(truth(true))}, api.OpNeg: {unit, args(number(3))}, api.OpArray: {unit, args(unit, number(2), text("c"))},
		api.OpRecord: {texts("b", "a"), args(unit, number(1))}, api.OpIndex: {unit, args(list(unit, number(1)), number(1))},
		api.OpField: {text("b"), args(r)}, api.OpLen: {unit, args(r)}, api.OpPush: {unit, args(list(unit), number(1))},
		api.OpChange: {unit, args(list(unit, unit), number(1), text("x"))}, api.OpSlice: {unit, args(text("abc"), number(1), number(2))},
		api.OpWith: {unit, args(r, text("c"), unit)}, api.OpWithout: {unit, args(r, text("a"))}, api.OpKeys: {unit, args(r)},
		api.OpHas: {unit, args(r, text("a"))}, api.OpKind: {unit, args(r)}, api.OpDigest: {unit, args(r)}, api.OpAbort: {unit, args(r)},
	}
	for _, op := range []int{api.OpAdd, api.OpSub, api.OpMul, api.OpDiv, api.OpRem, api.OpEq, api.OpNe, api.OpLt, api.OpLe, api.OpGt, api.OpGe} {
		out[op] = call{unit, args(number(7), number(3))}
	}
	return out
}

// refused holds that a call is refused with TrapType.
func refused(t *testing.T, op int, extra api.Value, l []api.Value) {
	t.Helper()
	answers(t, op, extra, l, unit, api.TrapType)
}

func TestP132Plain(t *testing.T) {
	for op := first; op <= last; op++ {
		c, ok := plains()[op]
		if !ok {
			t.Fatalf("no call of %d", op)
		}
		want := 0
		if op == api.OpAbort {
			want = api.TrapAbort
		}
		if trap := try(t, op, c.extra, c.args...); trap != want {
			t.Errorf("%d: the trap %d", op, trap)
		}
	}
}

func TestP132NotPure(t *testing.T) {
	lists := [][]api.Value{nil, {unit}, {text("a")}, {truth(true)}, {number(1), number(2)}, {text("a"), number(1)}, {list(), number(0), unit}, make([]api.Value, 41)}
	for op := -100; op <= 300; op++ {
		for _, l := range lists {
			if op < first || op > last {
				refused(t, op, unit, l)
				refused(t, op, texts("a"), l)
			}
		}
	}
	for _, op := range strange {
		for _, l := range lists {
			refused(t, op, unit, l)
		}
	}
}

func TestP132WrongValues(t *testing.T) {
	for op, c := range plains() {
		for _, wrong := range wrongs {
			refused(t, op, wrong, c.args)
			for i := range c.args {
				l := slices.Clone(c.args)
				l[i] = wrong
				refused(t, op, c.extra, l)
			}
			refused(t, op, c.extra, append(slices.Clone(c.args), wrong))
		}
	}
	for _, wrong := range wrongs {
		for at := range 40 {
			l := make([]api.Value, 40)
			l[at] = wrong
			refused(t, api.OpArray, unit, l)
			refused(t, api.OpRecord, texts(names(40)...), l)
		}
		refused(t, api.OpRecord, wrong, nil)
		refused(t, api.OpArray, wrong, nil)
	}
}

func TestP132AnyExtra(t *testing.T) {
	extras := []api.Value{unit, truth(false), truth(true), number(5), text(""), text("b"), text("zz"), list(), texts("b", "a"), texts("a"), texts("a", "a"),
		units(41), record(""), under("a", unit), long(2047), arrays(7, unit)}
	for op := first; op <= last; op++ {
		for _, extra := range extras {
			c := plains()[op]
			trap := try(t, op, extra, c.args...)
			if op != api.OpRecord && op != api.OpField && op != api.OpAbort && trap != 0 {
				t.Errorf("%d with %s: the trap %d", op, brief(extra), trap)
			}
		}
	}
}

func TestP132Counts(t *testing.T) {
	for op, c := range plains() {
		if op == api.OpArray {
			continue
		}
		for count := range 45 {
			for _, filler := range []api.Value{unit, number(0), text("a"), list(unit), under("a", unit)} {
				l := slices.Repeat(args(filler), count)
				copy(l, c.args)
				if count != len(c.args) {
					refused(t, op, c.extra, l)
				}
				try(t, op, c.extra, l...)
			}
		}
	}
	for count := range 100 {
		want := 0
		if count > 40 {
			want = api.TrapType
		}
		if trap := try(t, api.OpArray, unit, make([]api.Value, count)...); trap != want {
			t.Errorf("array of %d: the trap %d", count, trap)
		}
	}
	refused(t, api.OpArray, unit, make([]api.Value, 1<<20))
	refused(t, api.OpKind, unit, make([]api.Value, 1<<20))
}

func TestP132RecordConstant(t *testing.T) {
	if trap := try(t, api.OpRecord, list()); trap != 0 {
		t.Errorf("a record of nothing: the trap %d", trap)
	}
	for _, extra := range []api.Value{unit, truth(false), number(0), text(""), text("a"), record(""), under("a", unit), units(1), units(41), texts(names(41)...)} {
		refused(t, api.OpRecord, extra, nil)
	}
	for count := range 45 {
		l := make([]api.Value, count)
		for i := range l {
			l[i] = number(int64(i))
		}
		for _, keys := range [][]string{names(count), slices.Sorted(slices.Values(names(count)))} {
			trap := try(t, api.OpRecord, texts(keys...), l...)
			if (trap == 0) != (count <= 40) {
				t.Errorf("a record of %d: the trap %d", count, trap)
			}
			if count == 0 || count > 40 {
				continue
			}
			refused(t, api.OpRecord, texts(keys...), l[1:])
			refused(t, api.OpRecord, texts(keys...), append(slices.Clone(l), unit))
			for at := range count {
				other := texts(keys...)
				other.L[at] = unit
				refused(t, api.OpRecord, other, l)
				other.L[at] = list(text(keys[at]))
				refused(t, api.OpRecord, other, l)
				other.L[at] = text(longKey + "k")
				refused(t, api.OpRecord, other, l)
				other.L[at] = text(longKey)
				try(t, api.OpRecord, other, l...)
				other.L[at] = text(keys[(at+1)%count])
				if count > 1 {
					refused(t, api.OpRecord, other, l)
				}
			}
		}
	}
	// A constant of no record, though that would be too heavy or too deep besides.
	refused(t, api.OpRecord, texts("a", "a"), args(long(2000), long(2000)))
	refused(t, api.OpRecord, texts("a", longKey+"k"), args(long(2000), long(2000)))
	refused(t, api.OpRecord, list(text("a"), unit), args(arrays(7, unit), unit))
}

func TestP132FieldConstant(t *testing.T) {
	r := record("a b", number(1), number(2))
	for _, extra := range []api.Value{unit, truth(true), number(0), list(), texts("a"), record(""), r} {
		refused(t, api.OpField, extra, args(r))
		refused(t, api.OpField, extra, args(record("")))
	}
	for _, key := range []string{"", "a", "aa", "b", "c", longKey, longKey + "k", strings.Repeat("a", 2047)} {
		try(t, api.OpField, text(key), r)
		try(t, api.OpField, text(key), under(key[:min(32, len(key))], r))
		for _, other := range []api.Value{unit, text("a"), list(number(1)), number(1)} {
			refused(t, api.OpField, text(key), args(other))
		}
	}
	answers(t, api.OpField, text(longKey+"k"), args(under(longKey, unit)), unit, api.TrapKey)
}

// pool are right values of all kinds, no two the same.
var pool = []api.Value{
	unit, truth(false), truth(true),
	number(0), number(1), number(-1), number(2), number(3), number(97), number(math.MaxInt64), number(math.MinInt64), number(1 << 32), number(-1 << 32),
	text(""), text("a"), text("b"), text("ab"), text("\x00"), text("\xff\x80"), text("\u00e9"), text(longKey), text(longKey + "k"), long(2047),
	list(), list(unit), list(number(1)), list(number(1), number(2)), texts("a", "b"), list(list()), units(3), list(long(2046)), arrays(7, unit), arrays(7, list()),
	record(""), under("", unit), under("a", unit), under("a", number(1)), record("a b", number(1), number(2)), under("\xff\x80", truth(true)), under(longKey, list()),
	record("a ab b", number(1), text("a"), list(unit)), under("a", long(2044)),
}

func TestP132AllShort(t *testing.T) {
	traps := map[int]int{}
	for op := first - 1; op <= last+1; op++ {
		for _, extra := range []api.Value{unit, text("a"), list(), texts("b"), texts("b", "a"), texts("b", "a", "")} {
			traps[try(t, op, extra)]++
			for _, a := range pool {
				traps[try(t, op, extra, a)]++
			}
			if op != api.OpArray && op != api.OpRecord && !zero(extra) {
				continue
			}
			for _, a := range pool {
				for _, b := range pool {
					traps[try(t, op, extra, a, b)]++
				}
			}
		}
	}
	for trap, least := range map[int]int{0: 5000, api.TrapDivide: 20, api.TrapIndex: 50, api.TrapType: 20000, api.TrapSize: 50, api.TrapKey: 20, api.TrapAbort: 20} {
		if traps[trap] < least {
			t.Errorf("the trap %d: %d times: the test asks too little", trap, traps[trap])
		}
	}
}

func TestP132AllOfThree(t *testing.T) {
	some := []api.Value{unit, truth(true), number(-1), number(0), number(1), number(2), number(3), number(math.MinInt64), number(math.MaxInt64),
		text(""), text("ab"), text(longKey + "k"), list(), list(unit, number(2)), arrays(7, list()), record(""), record("a ab", unit, number(2)), under("ab", long(2042))}
	traps := map[int]int{}
	for _, op := range []int{api.OpAdd, api.OpArray, api.OpRecord, api.OpChange, api.OpSlice, api.OpWith, api.OpWithout} {
		for _, a := range some {
			for _, b := range some {
				for _, c := range some {
					traps[try(t, op, texts("b", "", "a"), a, b, c)]++
				}
			}
		}
	}
	for trap, least := range map[int]int{0: 5000, api.TrapIndex: 100, api.TrapType: 10000, api.TrapSize: 100, api.TrapKey: 20} {
		if traps[trap] < least {
			t.Errorf("the trap %d: %d times: the test asks too little", trap, traps[trap])
		}
	}
}

// edges are numbers at which something goes round, and some between.
func edges() []int64 {
	var out []int64
	for shift := range 64 {
		for _, n := range []int64{1<<shift - 1, 1 << shift, 1<<shift + 1, -1<<shift - 1, -1 << shift, -1<<shift + 1} {
			out = append(out, n)
		}
	}
	slices.Sort(out)
	return slices.Compact(append(out, 3037000499, 3037000500, -3037000500, 1000000007))
}

func TestP132Numbers(t *testing.T) {
	all := edges()
	for _, a := range all {
		try(t, api.OpNeg, unit, number(a))
		for _, b := range all {
			for op := api.OpAdd; op <= api.OpGe; op++ {
				if op == api.OpNeg || op == api.OpNot {
					continue
				}
				want, trap := wantedNumber(pures[op].name, big.NewInt(a), big.NewInt(b))
				answers(t, op, unit, args(number(a), number(b)), want, trap)
			}
		}
	}
}

func TestP132NumbersTold(t *testing.T) {
	for _, x := range []struct {
		op         int
		a, b, want int64
	}{
		{api.OpSub, math.MinInt64, 1, math.MaxInt64}, {api.OpSub, 0, math.MinInt64, math.MinInt64}, {api.OpMul, 1 << 32, 1 << 32, 0},
		{api.OpMul, math.MinInt64, -1, math.MinInt64}, {api.OpMul, 3037000500, 3037000500, -9223372036709301616},
		{api.OpDiv, 7, -2, -3}, {api.OpDiv, -7, -2, 3}, {api.OpDiv, 7, 2, 3}, {api.OpDiv, 1, 2, 0}, {api.OpDiv, -1, 2, 0},
		{api.OpRem, 7, -2, 1}, {api.OpRem, -7, -2, -1}, {api.OpRem, 7, 2, 1}, {api.OpRem, -6, 2, 0}, {api.OpRem, math.MinInt64, -1, 0},
		{api.OpRem, math.MinInt64, math.MaxInt64, -1},
	} {
		answers(t, x.op, unit, args(number(x.a), number(x.b)), number(x.want), 0)
	}
	answers(t, api.OpNeg, unit, args(number(math.MinInt64)), number(math.MinInt64), 0)
	answers(t, api.OpRem, unit, args(number(0), number(0)), unit, api.TrapDivide)
	answers(t, api.OpNot, unit, args(truth(true)), truth(false), 0)
	answers(t, api.OpNot, unit, args(truth(false)), truth(true), 0)
}

func TestP132Texts(t *testing.T) {
	words := []string{"", "\x00", "\x00\x00", "A", "a", "a\x00", "aa", "ab", "b", "\x7f", "\x80", "\u00e9", "\xff", "\xff\xff", strings.Repeat("a", 2047), strings.Repeat("a", 2046) + "b"}
	for _, a := range words {
		for _, b := range words {
			for op := api.OpEq; op <= api.OpGe; op++ {
				try(t, op, unit, text(a), text(b))
			}
			try(t, api.OpAdd, unit, text(a), text(b))
		}
		try(t, api.OpLen, unit, text(a))
	}
	answers(t, api.OpLt, unit, args(text("\x7f"), text("\x80")), truth(true), 0)
	answers(t, api.OpLt, unit, args(text("a"), text("a\x00")), truth(true), 0)
	answers(t, api.OpGt, unit, args(text("b"), text("aa")), truth(true), 0)
	var all strings.Builder
	for c := range 256 {
		all.WriteByte(byte(c))
	}
	for c := range 256 {
		answers(t, api.OpIndex, unit, args(text(all.String()), number(int64(c))), number(int64(c)), 0)
	}
}

func TestP132Places(t *testing.T) {
	strangers := []int64{math.MinInt64, math.MinInt32, -1 << 32, 1 << 32, 1<<32 + 1, math.MaxInt32, math.MaxInt64}
	for size := range 5 {
		l := list()
		for i := range size {
			l.L = append(l.L, number(int64(100+i)))
		}
		s := text("abcd"[:size])
		numbers := slices.Clone(strangers)
		for i := int64(-2); i <= 6; i++ {
			numbers = append(numbers, i)
		}
		for _, i := range numbers {
			try(t, api.OpIndex, unit, l, number(i))
			try(t, api.OpIndex, unit, s, number(i))
			try(t, api.OpChange, unit, l, number(i), text("x"))
			refused(t, api.OpChange, unit, args(s, number(i), number(97)))
			for _, j := range numbers {
				try(t, api.OpSlice, unit, l, number(i), number(j))
				try(t, api.OpSlice, unit, s, number(i), number(j))
			}
		}
	}
}

// ends is how a call ends: a trap, or 0.
type ends struct {
	op    int
	extra api.Value
	args  []api.Value
	trap  int
}

func TestP132SizeEdges(t *testing.T) {
	deep := arrays(6, unit) // of the depth 7: it may stand in one thing
	deepest := arrays(7, unit)
	keys := texts("a", "b")
	for _, x := range []ends{
		{api.OpAdd, unit, args(long(2046), long(1)), 0},
		{api.OpAdd, unit, args(long(2046), long(2)), api.TrapSize},
		{api.OpAdd, unit, args(long(2047), long(0)), 0},
		{api.OpAdd, unit, args(long(0), long(2047)), 0},
		{api.OpAdd, unit, args(long(2047), long(2047)), api.TrapSize},
		{api.OpAdd, unit, args(units(2000), units(47)), 0},
		{api.OpAdd, unit, args(units(2000), units(48)), api.TrapSize},
		{api.OpAdd, unit, args(units(2047), units(0)), 0},
		{api.OpAdd, unit, args(units(2047), units(2047)), api.TrapSize},
		{api.OpAdd, unit, args(list(deep), list(deep)), 0},
		{api.OpPush, unit, args(units(2046), unit), 0},
		{api.OpPush, unit, args(units(2047), unit), api.TrapSize},
		{api.OpPush, unit, args(list(), long(2046)), 0},
		{api.OpPush, unit, args(list(), long(2047)), api.TrapSize},
		{api.OpPush, unit, args(list(), deep), 0},
		{api.OpPush, unit, args(list(), deepest), api.TrapSize},
		{api.OpChange, unit, args(units(2047), number(2046), number(7)), 0},
		{api.OpChange, unit, args(units(2047), number(0), text("")), 0},
		{api.OpChange, unit, args(units(2047), number(0), text("a")), api.TrapSize},
		{api.OpChange, unit, args(list(long(2046)), number(0), long(2047)), api.TrapSize},
		{api.OpChange, unit, args(list(long(2046)), number(0), units(2046)), 0},
		{api.OpChange, unit, args(list(unit), number(0), deep), 0},
		{api.OpChange, unit, args(list(unit), number(0), deepest), api.TrapSize},
		{api.OpWith, unit, args(record(""), text("a"), long(2044)), 0},
		{api.OpWith, unit, args(record(""), text("a"), long(2045)), api.TrapSize},
		{api.OpWith, unit, args(record(""), text(""), long(2045)), 0},
		{api.OpWith, unit, args(under("a", long(2044)), text("a"), units(2044)), 0},
		{api.OpWith, unit, args(under("a", long(2044)), text("a"), units(2045)), api.TrapSize},
		{api.OpWith, unit, args(under("a", long(2042)), text(""), unit), 0},
		{api.OpWith, unit, args(under("a", long(2043)), text(""), unit), api.TrapSize},
		{api.OpWith, unit, args(record(""), text(longKey), deep), 0},
		{api.OpWith, unit, args(record(""), text(longKey), deepest), api.TrapSize},
		{api.OpArray, unit, args(long(1000), long(1045)), 0},
		{api.OpArray, unit, args(long(1000), long(1046)), api.TrapSize},
		{api.OpArray, unit, args(unit, deep, unit), 0},
		{api.OpArray, unit, args(unit, deepest, unit), api.TrapSize},
		{api.OpRecord, keys, args(long(1000), long(1041)), 0},
		{api.OpRecord, keys, args(long(1000), long(1042)), api.TrapSize},
		{api.OpRecord, keys, args(unit, deep), 0},
		{api.OpRecord, keys, args(unit, deepest), api.TrapSize},
		{api.OpKeys, unit, args(under(longKey, deep)), 0},
		{api.OpDigest, unit, args(units(2047)), 0},
		{api.OpDigest, unit, args(deepest), 0},
		{api.OpSlice, unit, args(units(2047), number(0), number(2047)), 0},
		{api.OpIndex, unit, args(deepest, number(0)), 0},
	} {
		if trap := try(t, x.op, x.extra, x.args...); trap != x.trap {
			t.Errorf("Do(%s, %s): the trap %d, want %d", pures[x.op].name, brief(x.args), trap, x.trap)
		}
	}
}

func TestP132FirstTrap(t *testing.T) {
	for _, x := range []ends{
		{api.OpDiv, unit, args(text("a"), number(0)), api.TrapType},
		{api.OpRem, unit, args(unit, number(0)), api.TrapType},
		{api.OpIndex, unit, args(list(), text("a")), api.TrapType},
		{api.OpIndex, unit, args(unit, number(-1)), api.TrapType},
		{api.OpChange, unit, args(list(), number(0), arrays(7, list())), api.TrapIndex},
		{api.OpChange, unit, args(record(""), number(0), arrays(7, list())), api.TrapType},
		{api.OpChange, unit, args(list(), text(""), arrays(7, list())), api.TrapType},
		{api.OpPush, unit, args(text("a"), arrays(7, list())), api.TrapType},
		{api.OpSlice, unit, args(list(), number(2), text("")), api.TrapType},
		{api.OpSlice, unit, args(list(), unit, number(5)), api.TrapType},
		{api.OpWith, unit, args(record(""), long(33), arrays(7, list())), api.TrapKey},
		{api.OpWith, unit, args(under("a", long(2044)), long(33), unit), api.TrapKey},
		{api.OpWith, unit, args(list(), long(33), unit), api.TrapType},
		{api.OpWith, unit, args(record(""), number(1), arrays(7, list())), api.TrapType},
		{api.OpWithout, unit, args(list(), text("a")), api.TrapType},
		{api.OpWithout, unit, args(record(""), unit), api.TrapType},
		{api.OpWithout, unit, args(under(longKey, unit), text(longKey+"k")), api.TrapKey},
		{api.OpAdd, unit, args(long(2047), units(2047)), api.TrapType},
		{api.OpAdd, unit, args(truth(true), truth(true)), api.TrapType},
		{api.OpAdd, unit, args(record(""), record("")), api.TrapType},
		{api.OpAdd, unit, args(unit, unit), api.TrapType},
		{api.OpLt, unit, args(truth(false), truth(true)), api.TrapType},
		{api.OpLe, unit, args(list(), list()), api.TrapType},
		{api.OpGt, unit, args(unit, unit), api.TrapType},
		{api.OpGe, unit, args(text("1"), number(1)), api.TrapType},
		{api.OpNot, unit, args(number(1)), api.TrapType},
		{api.OpNeg, unit, args(truth(true)), api.TrapType},
		{api.OpLen, unit, args(number(1)), api.TrapType},
		{api.OpKeys, unit, args(texts("a")), api.TrapType},
		{api.OpHas, unit, args(record(""), text(longKey+"k")), 0},
		{api.OpAbort, unit, nil, api.TrapType},
	} {
		if trap := try(t, x.op, x.extra, x.args...); trap != x.trap {
			t.Errorf("Do(%s, %s): the trap %d, want %d", pures[x.op].name, brief(x.args), trap, x.trap)
		}
	}
}

func TestP132Keys(t *testing.T) {
	all := []string{"", "\x00", "a", "aa", "ab", "b", longKey, "\xff"}
	for set := range 1 << len(all) {
		m := map[string]api.Value{}
		for i, key := range all {
			if set>>i&1 == 1 {
				m[key] = number(int64(i))
			}
		}
		r := laid(m)
		try(t, api.OpKeys, unit, r)
		try(t, api.OpLen, unit, r)
		for _, key := range append(all, "ac", "c", longKey+"k", longKey[:31]) {
			try(t, api.OpHas, unit, r, text(key))
			try(t, api.OpField, text(key), r)
			try(t, api.OpWithout, unit, r, text(key))
			try(t, api.OpWith, unit, r, text(key), text("new"))
		}
	}
}

func TestP132Kinds(t *testing.T) {
	for i, v := range []api.Value{unit, truth(true), number(9), text("a"), list(), record("")} {
		answers(t, api.OpKind, unit, args(v), number(int64(i)), 0)
	}
}

func TestP132Digest(t *testing.T) {
	for _, v := range pool {
		b, _ := wire.Encode(v)
		d := hash.Sum(b)
		answers(t, api.OpDigest, unit, args(v), text(string(d[:])), 0)
	}
}

// randomValue is right, mostly.
func randomValue(dice *rand.Rand, deep int) api.Value {
	v := api.Value{Kind: dice.Intn(6)}
	if deep == 0 {
		v.Kind = dice.Intn(4)
	}
	switch v.Kind {
	case api.Bool:
		v.N = int64(dice.Intn(2))
	case api.Int:
		v.N = int64(dice.Intn(6) - 1)
		if dice.Intn(4) == 0 {
			v.N = int64(dice.Uint64())
		}
	case api.Bytes:
		v.S = strings.Repeat("a\x05\xff"[:1+dice.Intn(3)], dice.Intn(4))
		if dice.Intn(10) == 0 {
			v.S = strings.Repeat("y", []int{dice.Intn(2048), 1010 + dice.Intn(20), 2030 + dice.Intn(18)}[dice.Intn(3)])
		}
	case api.Array:
		for range dice.Intn(5) {
			v.L = append(v.L, randomValue(dice, deep-1))
		}
	case api.Record:
		for _, key := range []string{"", "\x05", "a", "aa", "b", longKey} {
			if dice.Intn(3) == 0 {
				v.K = append(v.K, key)
				v.L = append(v.L, randomValue(dice, deep-1))
			}
		}
	}
	if dice.Intn(200) == 0 {
		v.N++
	}
	return v
}

// randomOf is a value of one of a form's letters, if that says so.
func randomOf(dice *rand.Rand, letter byte) api.Value {
	for {
		v := randomValue(dice, dice.Intn(9))
		if letter == '.' || v.Kind >= 0 && v.Kind < 6 && "utibar"[v.Kind] == letter {
			return v
		}
	}
}

// asked are forms that each operation takes.
var asked = map[string]string{"add": "ii bb aa", "sub": "ii", "mul": "ii", "div": "ii", "rem": "ii", "neg": "i", "not": "t", "eq": "..", "ne": "..",
	"lt": "ii bb", "le": "ii bb", "gt": "ii bb", "ge": "ii bb", "array": ".... ..", "record": "... ..", "index": "ai bi", "field": "r", "len": "b a r",
	"push": "a.", "change": "ai.", "slice": "aii bii", "with": "rb.", "without": "rb", "keys": "r", "has": "rb", "kind": ".", "digest": ".", "abort": "."}

func TestP132Random(t *testing.T) {
	dice := rand.New(rand.NewSource(13))
	ended := map[int]map[int]int{}
	for op := first; op <= last; op++ {
		ended[op] = map[int]int{}
	}
	for range 150000 {
		op := first + dice.Intn(last-first+1)
		shapes := strings.Fields(asked[pures[op].name])
		shape := []byte(shapes[dice.Intn(len(shapes))])
		if dice.Intn(10) == 0 {
			shape[dice.Intn(len(shape))] = '.'
		}
		var l []api.Value
		for _, letter := range shape {
			l = append(l, randomOf(dice, letter))
		}
		extra := unit
		switch {
		case op == api.OpRecord:
			for range len(l) {
				extra.L = append(extra.L, text([]string{"", "a", "b", "c", "d", longKey}[dice.Intn(6)]))
			}
			extra.Kind = api.Array
		case op == api.OpField:
			extra = text([]string{"", "\x05", "a", "aa", "b", longKey, "x"}[dice.Intn(7)])
		case dice.Intn(3) == 0:
			extra = randomValue(dice, 2)
		}
		ended[op][try(t, op, extra, l...)]++
	}
	for op, traps := range ended {
		if op != api.OpAbort && traps[0] < 200 {
			t.Errorf("%s gave something %d times: the test asks too little", pures[op].name, traps[0])
		}
	}
	for _, op := range []int{api.OpAdd, api.OpArray, api.OpRecord, api.OpPush, api.OpChange, api.OpWith} {
		if ended[op][api.TrapSize] < 5 {
			t.Errorf("%s was too great %d times: the test asks too little", pures[op].name, ended[op][api.TrapSize])
		}
	}
}

func TestP133NoListTwice(t *testing.T) {
	// The same list in several arguments, and twice within one: what is given has it once each.
	l := fresh(list(text("a"), under("k", number(1))))
	twice := list(l, l)
	r := record("a b", l, l)
	for _, x := range []ends{
		{api.OpArray, unit, args(l, l, twice), 0}, {api.OpRecord, texts("b", "a"), args(l, l), 0}, {api.OpAdd, unit, args(twice, twice), 0},
		{api.OpPush, unit, args(twice, twice), 0}, {api.OpChange, unit, args(twice, number(0), twice), 0}, {api.OpSlice, unit, args(twice, number(0), number(2)), 0},
		{api.OpIndex, unit, args(list(twice), number(0)), 0}, {api.OpField, text("a"), args(under("a", twice)), 0}, {api.OpWith, unit, args(r, text("c"), r), 0},
		{api.OpWithout, unit, args(r, text("a")), 0}, {api.OpKeys, unit, args(r), 0},
	} {
		v, trap := prim.Do(x.op, x.extra, x.args)
		want, _ := wanted(x.op, x.extra, slices.Clone(x.args))
		if trap != 0 || !same(v, want) || shared(pieces(v), pieces(list(append(slices.Clone(x.args), x.extra)...))) {
			t.Errorf("%s: %d, or it shares memory", pures[x.op].name, trap)
		}
	}
}

// TestP133Texts: a piece of a text that is handed in, or one put together with nothing, is a text of its own.
func TestP133Texts(t *testing.T) {
	s := text(strings.Repeat("abc", 5))
	for _, x := range []ends{
		{api.OpAdd, unit, args(s, text("")), 0}, {api.OpAdd, unit, args(text(""), s), 0}, {api.OpSlice, unit, args(s, number(0), number(15)), 0},
		{api.OpSlice, unit, args(s, number(3), number(4)), 0}, {api.OpArray, unit, args(s), 0}, {api.OpIndex, unit, args(list(s), number(0)), 0},
		{api.OpRecord, list(s), args(s), 0}, {api.OpWith, unit, args(record(""), s, s), 0}, {api.OpKeys, unit, args(under(s.S, s)), 0},
		{api.OpField, s, args(under(s.S, s)), 0},
	} {
		v, trap := prim.Do(x.op, x.extra, x.args)
		if trap != 0 || shared(pieces(v), textPiece(s.S)) {
			t.Errorf("%s: %d, or it shares a text", pures[x.op].name, trap)
		}
	}
}

// holds: is what Do gives true?
func holds(t *testing.T, op int, a, b api.Value) bool {
	t.Helper()
	v, trap := prim.Do(op, unit, args(a, b))
	if trap != 0 || v.Kind != api.Bool {
		t.Fatalf("Do(%s, %s, %s) = %s, %d", pures[op].name, brief(a), brief(b), brief(v), trap)
	}
	return v.N == 1
}

func TestFollowsSame(t *testing.T) {
	dice := rand.New(rand.NewSource(134))
	all := slices.Clone(pool)
	for len(all) < 250 {
		if v := randomValue(dice, 2); right(v) {
			all = append(all, v, fresh(v))
		}
	}
	bytes := make([]string, len(all))
	digests := make([]string, len(all))
	for i, v := range all {
		b, _ := wire.Encode(v)
		d, _ := prim.Do(api.OpDigest, unit, args(v))
		bytes[i], digests[i] = string(b), d.S
	}
	equal := 0
	for i, a := range all {
		for j, b := range all {
			eq := holds(t, api.OpEq, a, b)
			if eq != (bytes[i] == bytes[j]) || eq != (digests[i] == digests[j]) || eq == holds(t, api.OpNe, a, b) {
				t.Fatalf("eq of %s and %s is %t", brief(a), brief(b), eq)
			}
			if eq && i != j {
				equal++
			}
			if a.Kind != b.Kind || a.Kind != api.Int && a.Kind != api.Bytes {
				continue
			}
			lt, gt := holds(t, api.OpLt, a, b), holds(t, api.OpGt, a, b)
			if lt && gt || lt && eq || eq && gt || !lt && !eq && !gt {
				t.Fatalf("of %s and %s: lt %t, eq %t, gt %t", brief(a), brief(b), lt, eq, gt)
			}
			if holds(t, api.OpLe, a, b) == gt || holds(t, api.OpGe, a, b) == lt {
				t.Fatalf("of %s and %s: le, or ge", brief(a), brief(b))
			}
		}
	}
	if equal < 200 {
		t.Errorf("%d pairs of the same: the test asks too little", equal)
	}
}

func TestFollowsSliceOfAdd(t *testing.T) {
	dice := rand.New(rand.NewSource(135))
	for range 2000 {
		a, b := text("abcdef"[:dice.Intn(6)]), text("ghij"[:dice.Intn(5)])
		if dice.Intn(2) == 0 {
			a, b = list(), list()
			for range dice.Intn(4) {
				a.L = append(a.L, randomOf(dice, 'i'))
				b.L = append(b.L, randomOf(dice, 't'))
			}
		}
		whole, trap := prim.Do(api.OpAdd, unit, args(a, b))
		if trap != 0 {
			continue
		}
		cut := int64(max(len(a.S), len(a.L)))
		end := int64(max(len(whole.S), len(whole.L)))
		answers(t, api.OpSlice, unit, args(whole, number(0), number(cut)), a, 0)
		answers(t, api.OpSlice, unit, args(whole, number(cut), number(end)), b, 0)
		i := dice.Int63n(cut + 1)
		part, _ := prim.Do(api.OpSlice, unit, args(a, number(i), number(cut)))
		answers(t, api.OpSlice, unit, args(whole, number(i), number(cut)), part, 0)
	}
}

// TestFollowsAlone: what is given hangs on the arguments alone, not on calls ahead.
func TestFollowsAlone(t *testing.T) {
	dice := rand.New(rand.NewSource(136))
	for range 2000 {
		op := first + dice.Intn(last-first+1)
		c := plains()[op]
		v, trap := prim.Do(op, c.extra, c.args)
		for range dice.Intn(3) {
			prim.Do(first+dice.Intn(last-first+1), unit, args(randomValue(dice, 2), randomValue(dice, 1)))
		}
		again, trapAgain := prim.Do(op, c.extra, c.args)
		if trap != trapAgain || !same(v, again) {
			t.Fatalf("%s twice: %s, %d and %s, %d", pures[op].name, brief(v), trap, brief(again), trapAgain)
		}
	}
}

// TestR3NilAndEmpty: nil lists and empty ones are one.
func TestR3NilAndEmpty(t *testing.T) {
	none := []api.Value{}
	empties := []api.Value{{Kind: api.Array}, {Kind: api.Array, L: none, K: []string{}}}
	blanks := []api.Value{{Kind: api.Record}, {Kind: api.Record, L: none, K: []string{}}}
	for i := range 2 {
		answers(t, api.OpRecord, empties[i], nil, record(""), 0)
		answers(t, api.OpRecord, empties[i], none, record(""), 0)
		answers(t, api.OpLen, unit, args(empties[i]), number(0), 0)
		answers(t, api.OpKeys, unit, args(blanks[i]), list(), 0)
		answers(t, api.OpEq, unit, args(empties[0], empties[i]), truth(true), 0)
		answers(t, api.OpEq, unit, args(blanks[i], blanks[0]), truth(true), 0)
		answers(t, api.OpEq, unit, args(empties[i], blanks[i]), truth(false), 0)
		answers(t, api.OpKind, api.Value{L: none, K: []string{}}, args(api.Value{L: none}), number(0), 0)
	}
	answers(t, api.OpArray, unit, nil, list(), 0)
	answers(t, api.OpArray, unit, none, list(), 0)
}
