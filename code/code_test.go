package code_test

import (
	"bytes"
	"encoding/hex"
	"math"
	"math/rand"
	"slices"
	"strconv"
	"strings"
	"testing"

	"scruple/api"
	"scruple/code"
)

// document is DOC.md's table of the instructions, as it stands there.
const document = `
| 1 | const | AConst | 0 | 1 | 1 | 0 |
| 2 | get | ALocal | 0 | 1 | 1 | 0 |
| 3 | set | ALocal | 1 | 0 | 1 | 0 |
| 4 | pop | | 1 | 0 | 1 | 0 |
| 5 | jump | APlace | 0 | 0 | 1 | 0 |
| 6 | unless | APlace | 1 | 0 | 2 | 0 |
| 7 | test | | 1 | 1 | 1 | 0 |
| 8 | call | AFunc | the function's Params | 1 | 8 | 0 |
| 9 | ret | | 1 | (the frame ends) | 1 | 0 |
| 10 | add | | 2 | 1 | 2 | 1 |
| 11 to 14 | sub, mul, div, rem | | 2 | 1 | 2, 3, 3, 3 | 0 |
| 15, 16 | neg, not | | 1 | 1 | 1 | 0 |
| 17 to 22 | eq, ne, lt, le, gt, ge | | 2 | 1 | 2 | 1 |
| 23 | array | ACount | its operand | 1 | 2 | 1 |
| 24 | record | AConst | as many as that constant has elements | 1 | 2 | 1 |
| 25 | index | | 2 | 1 | 2 | 0 |
| 26 | field | AConst | 1 | 1 | 2 | 0 |
| 27 | len | | 1 | 1 | 1 | 0 |
| 28 | push | | 2 | 1 | 2 | 1 |
| 29 | change | | 3 | 1 | 2 | 1 |
| 30 | slice | | 3 | 1 | 2 | 1 |
| 31 | with | | 3 | 1 | 2 | 1 |
| 32 | without | | 2 | 1 | 2 | 1 |
| 33 | keys | | 1 | 1 | 2 | 1 |
| 34 | has | | 2 | 1 | 2 | 0 |
| 35 | kind | | 1 | 1 | 1 | 0 |
| 36 | digest | | 1 | 1 | 20 | 1 |
| 37 | abort | | 1 | 1 | 1 | 0 |
| 38 | load | | 1 | 1 | 10 | 1 |
| 39 | save | | 2 | 1 | 20 | 2 |
| 40 | drop | | 1 | 1 | 10 | 1 |
| 41 | after | | 1 | 1 | 10 | 1 |
`

// sorts are the numbers of the operands' sorts, as api has them.
var sorts = map[string]int{"": api.NoOperand, "AConst": api.AConst, "ALocal": api.ALocal, "APlace": api.APlace, "AFunc": api.AFunc, "ACount": api.ACount}

// tops are how great an operand of each sort may be.
var tops = map[int]int{api.NoOperand: 0, api.AConst: 99, api.ALocal: 31, api.APlace: 3999, api.AFunc: 23, api.ACount: 40}

// count is the number that a cell says: 0, if it says so in words.
func count(cell string) int {
	n, err := strconv.Atoi(cell)
	if err != nil {
		return 0
	}
	return n
}

// table are the operations that the document tells, from 1 on; the first one of the row is none.
func table(t *testing.T) []api.Info {
	t.Helper()
	all := []api.Info{{}}
	for _, line := range strings.Split(strings.TrimSpace(document), "\n") {
		cells := strings.Split(line, "|")
		for i := range cells {
			cells[i] = strings.TrimSpace(cells[i])
		}
		first, _, _ := strings.Cut(strings.TrimSuffix(strings.Fields(cells[1])[0], ","), " ")
		if count(first) != len(all) {
			t.Fatalf("behind %d operations stands %s", len(all)-1, line)
		}
		bases := strings.Split(cells[6], ", ")
		for i, name := range strings.Split(cells[2], ", ") {
			all = append(all, api.Info{
				Name: name, Operand: sorts[cells[3]], Takes: count(cells[4]), Gives: count(cells[5]),
				Base: count(bases[min(i, len(bases)-1)]), Rate: count(cells[7]),
			})
		}
	}
	if len(all) != 42 {
		t.Fatalf("%d operations, not 41", len(all)-1)
	}
	return all
}

func ins(op, a int) api.Ins { return api.Ins{Op: op, A: a} }

func unhex(t *testing.T, s string) []byte {
	t.Helper()
	b, err := hex.DecodeString(strings.ReplaceAll(s, " ", ""))
	if err != nil {
		t.Fatal(err)
	}
	return b
}

// laid is what Put must answer, of the bytes of the instruction alone.
func laid(all []api.Info, i api.Ins) ([]byte, api.Errno) {
	if i.Op < 1 || i.Op > 41 {
		return nil, api.ErrCodeOp
	}
	sort := all[i.Op].Operand
	switch {
	case i.A < 0 || i.A > tops[sort]:
		return nil, api.ErrCodeOperand
	case sort == api.NoOperand:
		return []byte{byte(i.Op)}, api.OK
	case sort == api.APlace:
		return []byte{byte(i.Op), byte(i.A / 256), byte(i.A % 256)}, api.OK
	}
	return []byte{byte(i.Op), byte(i.A)}, api.OK
}

// rights are all instructions that are right: each operation with each operand.
func rights(all []api.Info) []api.Ins {
	var l []api.Ins
	for op := 1; op <= 41; op++ {
		for a := 0; a <= tops[all[op].Operand]; a++ {
			l = append(l, ins(op, a))
		}
	}
	return l
}

// readings are the right instructions by their bytes.
func readings(all []api.Info) map[string]api.Ins {
	m := map[string]api.Ins{}
	for _, i := range rights(all) {
		b, _ := laid(all, i)
		m[string(b)] = i
	}
	return m
}

// reading is what Take must answer: it finds the instruction among the bytes of all that are right.
func reading(all []api.Info, known map[string]api.Ins, b []byte, at int) (api.Ins, int, api.Errno) {
	if at < 0 || at >= len(b) {
		return api.Ins{}, at, api.ErrCodeEnd
	}
	for n := 1; n <= 3 && at+n <= len(b); n++ {
		if i, ok := known[string(b[at:at+n])]; ok {
			return i, at + n, api.OK
		}
	}
	op := int(b[at])
	if op == 0 || op > 41 {
		return api.Ins{}, at, api.ErrCodeOp
	}
	long := 2
	if all[op].Operand == api.APlace {
		long = 3
	}
	if len(b)-at < long {
		return api.Ins{}, at, api.ErrCodeEnd
	}
	return api.Ins{}, at, api.ErrCodeOperand
}

// listed is what List must answer.
func listed(all []api.Info, known map[string]api.Ins, b []byte) ([]api.Ins, []int, int, api.Errno) {
	var l []api.Ins
	var places []int
	at := 0
	for at < len(b) {
		i, next, e := reading(all, known, b, at)
		if e != api.OK {
			return nil, nil, at, e
		}
		l, places, at = append(l, i), append(places, at), next
	}
	return l, places, 0, api.OK
}

func TestExamples(t *testing.T) {
	for op, want := range map[int]api.Info{
		1:  {Name: "const", Operand: api.AConst, Takes: 0, Gives: 1, Base: 1, Rate: 0},
		39: {Name: "save", Operand: api.NoOperand, Takes: 2, Gives: 1, Base: 20, Rate: 2},
		0:  {}, 42: {},
	} {
		if got, ok := code.Info(op); got != want || ok != (want.Name != "") {
			t.Errorf("Info(%d) = %v, %v", op, got, ok)
		}
	}
	for name, want := range map[string]int{"ret": 9, "Ret": 0, "": 0} {
		if got, ok := code.Named(name); got != want || ok != (want != 0) {
			t.Errorf("Named(%q) = %d, %v", name, got, ok)
		}
	}
	for _, x := range []struct {
		ahead string
		i     api.Ins
		want  string
		e     api.Errno
	}{
		{"07", ins(api.OpConst, 3), "07 01 03", api.OK},
		{"", ins(api.OpJump, 300), "05 01 2c", api.OK},
		{"", ins(api.OpPop, 0), "04", api.OK},
		{"", ins(api.OpPop, 1), "", api.ErrCodeOperand},
		{"", ins(api.OpGet, 32), "", api.ErrCodeOperand},
		{"", ins(api.OpGet, -1), "", api.ErrCodeOperand},
		{"", ins(42, 0), "", api.ErrCodeOp},
	} {
		if got, e := code.Put(unhex(t, x.ahead), x.i); !bytes.Equal(got, unhex(t, x.want)) || e != x.e {
			t.Errorf("Put(%s, %v) = % x, %v", x.ahead, x.i, got, e)
		}
	}
	for _, x := range []struct {
		b        string
		at       int
		want     api.Ins
		wantNext int
		e        api.Errno
	}{
		{"04 01 03", 1, ins(api.OpConst, 3), 3, api.OK},
		{"04", 1, api.Ins{}, 1, api.ErrCodeEnd},
		{"04", -1, api.Ins{}, -1, api.ErrCodeEnd},
		{"05 01", 0, api.Ins{}, 0, api.ErrCodeEnd},
		{"01 64", 0, api.Ins{}, 0, api.ErrCodeOperand},
		{"00", 0, api.Ins{}, 0, api.ErrCodeOp},
	} {
		if got, next, e := code.Take(unhex(t, x.b), x.at); got != x.want || next != x.wantNext || e != x.e {
			t.Errorf("Take(%s, %d) = %v, %d, %v", x.b, x.at, got, next, e)
		}
	}
	for _, x := range []struct {
		b      string
		want   []api.Ins
		places []int
		at     int
		e      api.Errno
	}{
		{"01 00 04 09", []api.Ins{ins(api.OpConst, 0), ins(api.OpPop, 0), ins(api.OpRet, 0)}, []int{0, 2, 3}, 0, api.OK},
		{"04 17 29", nil, nil, 1, api.ErrCodeOperand},
		{"", nil, nil, 0, api.OK},
	} {
		got, places, at, e := code.List(unhex(t, x.b))
		if !slices.Equal(got, x.want) || !slices.Equal(places, x.places) || at != x.at || e != x.e {
			t.Errorf("List(%s) = %v, %v, %d, %v", x.b, got, places, at, e)
		}
	}
}

func TestP81Info(t *testing.T) {
	for op, want := range table(t) {
		if got, ok := code.Info(op); got != want || ok != (op > 0) {
			t.Errorf("Info(%d) = %v, %v, want %v", op, got, ok, want)
		}
	}
}

// The constants of api are the numbers of the operations whose names they bear.
func TestP81Numbers(t *testing.T) {
	for name, op := range map[string]int{
		"const": api.OpConst, "get": api.OpGet, "set": api.OpSet, "pop": api.OpPop, "jump": api.OpJump,
		"unless": api.OpUnless, "test": api.OpTest, "call": api.OpCall, "ret": api.OpRet, "add": api.OpAdd,
		"sub": api.OpSub, "mul": api.OpMul, "div": api.OpDiv, "rem": api.OpRem, "neg": api.OpNeg,
		"not": api.OpNot, "eq": api.OpEq, "ne": api.OpNe, "lt": api.OpLt, "le": api.OpLe,
		"gt": api.OpGt, "ge": api.OpGe, "array": api.OpArray, "record": api.OpRecord, "index": api.OpIndex,
		"field": api.OpField, "len": api.OpLen, "push": api.OpPush, "change": api.OpChange, "slice": api.OpSlice,
		"with": api.OpWith, "without": api.OpWithout, "keys": api.OpKeys, "has": api.OpHas, "kind": api.OpKind,
		"digest": api.OpDigest, "abort": api.OpAbort, "load": api.OpLoad, "save": api.OpSave, "drop": api.OpDrop,
		"after": api.OpAfter,
	} {
		if got, ok := code.Named(name); got != op || !ok {
			t.Errorf("Named(%q) = %d, %v, want %d", name, got, ok, op)
		}
		if got, ok := code.Info(op); got.Name != name || !ok {
			t.Errorf("Info(%d) = %v, %v, want %s", op, got, ok, name)
		}
	}
}

// strange are numbers that are none of an operation.
func strange() []int {
	l := []int{math.MinInt, math.MinInt + 1, math.MaxInt, math.MaxInt - 1, -1 << 32, 1 << 32, 1<<32 + 1, 1<<8 + 1, 1<<16 + 1, 1<<62 + 1}
	for op := -300; op <= 600; op++ {
		if op < 1 || op > 41 {
			l = append(l, op)
		}
	}
	return l
}

func TestP81InfoOfNone(t *testing.T) {
	for _, op := range strange() {
		if got, ok := code.Info(op); got != (api.Info{}) || ok {
			t.Errorf("Info(%d) = %v, %v", op, got, ok)
		}
	}
}

// What is done with an answer changes none of those behind it.
func TestP81InfoIsItsOwn(t *testing.T) {
	got, _ := code.Info(api.OpAdd)
	want := got
	got.Name, got.Operand, got.Takes, got.Gives, got.Base, got.Rate = "other", 1, 2, 3, 4, 5
	if again, ok := code.Info(api.OpAdd); again != want || !ok {
		t.Errorf("Info = %v, %v, want %v", again, ok, want)
	}
}

func TestP81Named(t *testing.T) {
	all := table(t)
	names := map[string]int{}
	for op, x := range all[1:] {
		names[x.Name] = op + 1
	}
	meet := func(name string) {
		t.Helper()
		if got, ok := code.Named(name); got != names[name] || ok != (names[name] != 0) {
			t.Errorf("Named(%q) = %d, %v, want %d", name, got, ok, names[name])
		}
	}
	meet("")
	for name := range names {
		meet(name)
		meet(strings.ToUpper(name))
		meet(strings.ToUpper(name[:1]) + name[1:])
		for n := range name {
			meet(name[:n])
			meet(name[n:])
			for c := range 256 {
				meet(name[:n] + string([]byte{byte(c)}) + name[n+1:])
				meet(name[:n] + string([]byte{byte(c)}) + name[n:])
			}
		}
		for c := range 256 {
			meet(name + string([]byte{byte(c)}))
		}
	}
	for _, name := range []string{"41", "0", "Op" + "Ret", "push pop", "a", strings.Repeat("const", 1000), "\xff", "ｒet"} {
		meet(name)
	}
}

// Every name of up to three small letters, and so each that the operations of so few have.
func TestP81NamedOfEachShortName(t *testing.T) {
	want := map[string]bool{}
	for _, x := range table(t) {
		if n := len(x.Name); n > 0 && n <= 3 {
			want[x.Name] = true
		}
	}
	seen := 0
	var walk func(name string)
	walk = func(name string) {
		if _, ok := code.Named(name); ok != want[name] {
			t.Errorf("Named(%q): %v", name, ok)
		} else if ok {
			seen++
		}
		if len(name) < 3 {
			for c := 'a'; c <= 'z'; c++ {
				walk(name + string(c))
			}
		}
	}
	walk("")
	if seen != 19 {
		t.Errorf("%d names of up to three letters", seen)
	}
}

func TestFollowsNoTwoOfOneName(t *testing.T) {
	seen := map[string]int{}
	for op := 1; op <= 41; op++ {
		x, ok := code.Info(op)
		if !ok || x.Name == "" || seen[x.Name] != 0 {
			t.Errorf("Info(%d) = %v, %v; of that name there is %d", op, x, ok, seen[x.Name])
		}
		seen[x.Name] = op
	}
}

// edges are operands about each bound, and those of which too few bits would be right.
func edges() []int {
	l := []int{math.MinInt, math.MinInt + 1, math.MaxInt, math.MaxInt - 1}
	for _, top := range tops {
		l = append(l, top-1, top, top+1, top+256, top+65536, top+1<<32, -top, -top-1, top-256, top-65536)
	}
	for n := range 63 {
		l = append(l, 1<<n, 1<<n-1, -1<<n, -1<<n-1)
	}
	return l
}

// put holds Put of one instruction against the chapter's words.
func put(t *testing.T, all []api.Info, i api.Ins) api.Errno {
	t.Helper()
	want, wantE := laid(all, i)
	got, e := code.Put(nil, i)
	if !bytes.Equal(got, want) || e != wantE {
		t.Errorf("Put(none, %v) = % x, %v, want % x, %v", i, got, e, want, wantE)
	}
	return e
}

func TestP82Put(t *testing.T) {
	all := table(t)
	seen := map[api.Errno]int{}
	for op := 1; op <= 41; op++ {
		for a := -70; a <= 4300; a++ {
			seen[put(t, all, ins(op, a))]++
		}
		for _, a := range edges() {
			seen[put(t, all, ins(op, a))]++
		}
	}
	if seen[api.OK] < 4*100+2*32+2*4000 || seen[api.ErrCodeOperand] < 100000 {
		t.Errorf("the test asks too little: %v", seen)
	}
}

// That the operation is none is said first, whatever the operand is.
func TestP82NoOperation(t *testing.T) {
	all := table(t)
	for _, op := range strange() {
		for _, a := range append(edges(), 0, 1, -1) {
			if e := put(t, all, ins(op, a)); e != api.ErrCodeOp {
				t.Errorf("Put(none, %d %d): %v", op, a, e)
			}
		}
	}
}

// aheads are rows that Put may be handed: all bytes of them stand, whatever they are.
func aheads() [][]byte {
	return [][]byte{nil, {}, {0}, {7}, {1}, {5, 1}, {42, 255, 0}, []byte("any bytes \x00\xff"), bytes.Repeat([]byte{255}, 70000)}
}

func TestP82Behind(t *testing.T) {
	all := table(t)
	for _, i := range []api.Ins{ins(api.OpConst, 3), ins(api.OpJump, 3999), ins(api.OpPop, 0), ins(api.OpArray, 40), ins(api.OpCall, 23)} {
		tail, _ := laid(all, i)
		for _, b := range aheads() {
			want := slices.Concat(b, tail)
			if got, e := code.Put(b, i); !bytes.Equal(got, want) || e != api.OK {
				t.Errorf("Put behind %d bytes, of %v: %v, other bytes", len(b), i, e)
			}
		}
	}
	for _, b := range aheads() {
		for _, i := range []api.Ins{ins(0, 0), ins(42, 0), ins(api.OpGet, 32), ins(api.OpRet, 1)} {
			_, want := laid(all, i)
			if got, e := code.Put(b, i); len(got) != 0 || e != want {
				t.Errorf("Put behind %d bytes, of %v: %d bytes, %v", len(b), i, len(got), e)
			}
		}
	}
}

// take holds Take against the chapter's words.
func take(t *testing.T, all []api.Info, known map[string]api.Ins, b []byte, at int) api.Errno {
	t.Helper()
	want, wantNext, wantE := reading(all, known, b, at)
	got, next, e := code.Take(b, at)
	if got != want || next != wantNext || e != wantE {
		t.Errorf("Take(% x, %d) = %v, %d, %v, want %v, %d, %v", b, at, got, next, e, want, wantNext, wantE)
	}
	return e
}

func TestP83EachRight(t *testing.T) {
	all := table(t)
	for _, i := range rights(all) {
		b, _ := laid(all, i)
		for _, ahead := range []int{0, 1, 5} {
			for _, behind := range []int{0, 1, 2} {
				row := slices.Concat(bytes.Repeat([]byte{255}, ahead), b, bytes.Repeat([]byte{255}, behind))
				if got, next, e := code.Take(row, ahead); got != i || next != ahead+len(b) || e != api.OK {
					t.Errorf("Take(% x, %d) = %v, %d, %v, want %v", row, ahead, got, next, e, i)
				}
			}
		}
	}
}

// Every row of one and two bytes; of three all that begin with an operation which has an operand of two bytes, and some of the others.
func TestP83EveryShortRow(t *testing.T) {
	all := table(t)
	known := readings(all)
	seen := map[api.Errno]int{}
	for one := range 256 {
		seen[take(t, all, known, []byte{byte(one)}, 0)]++
		for two := range 256 {
			seen[take(t, all, known, []byte{byte(one), byte(two)}, 0)]++
			long := one > 0 && one <= 41 && all[one].Operand == api.APlace
			for three := 0; three < 256; three++ {
				if long || three%85 == 0 {
					seen[take(t, all, known, []byte{byte(one), byte(two), byte(three)}, 0)]++
				}
			}
		}
	}
	for _, e := range []api.Errno{api.OK, api.ErrCodeOp, api.ErrCodeEnd, api.ErrCodeOperand} {
		if seen[e] < 9 {
			t.Errorf("the test asks too little: %v", seen)
		}
	}
}

func TestP83Places(t *testing.T) {
	all := table(t)
	known := readings(all)
	for _, b := range [][]byte{nil, {}, {4}, {1, 3}, {5, 1, 44}, {4, 1, 3, 9, 5, 0}, {0, 0}, {42}, {255, 255, 255}} {
		for at := -5; at <= len(b)+5; at++ {
			take(t, all, known, b, at)
		}
		for _, at := range []int{math.MinInt, math.MinInt + 1, -1 << 32, math.MaxInt, math.MaxInt - 1, math.MaxInt - 2, 1 << 32, 1<<32 + 1} {
			if e := take(t, all, known, b, at); e != api.ErrCodeEnd {
				t.Errorf("Take(% x, %d): %v", b, at, e)
			}
		}
	}
}

// The bytes end where the list does, not where its spare room ends.
func TestP83SpareRoomIsNone(t *testing.T) {
	b := []byte{5, 1, 44, 4}
	for n := range 3 {
		if got, next, e := code.Take(b[:n], 0); got != (api.Ins{}) || next != 0 || e != api.ErrCodeEnd {
			t.Errorf("Take(% x, 0) = %v, %d, %v", b[:n], got, next, e)
		}
	}
	if _, _, _, e := code.List(b[:2]); e != api.ErrCodeEnd {
		t.Errorf("List(% x): %v", b[:2], e)
	}
}

// The order: the place, the operation, the end, the bounds.
func TestP83Order(t *testing.T) {
	for _, x := range []struct {
		b  string
		at int
		e  api.Errno
	}{
		{"00", 1, api.ErrCodeEnd},           // no byte there, whatever stands ahead
		{"2a", 0, api.ErrCodeOp},            // no operation, though nothing follows
		{"ff", 0, api.ErrCodeOp},            // likewise
		{"05", 0, api.ErrCodeEnd},           // no operand
		{"05 ff", 0, api.ErrCodeEnd},        // half of one: beyond its bounds, whatever would follow
		{"06 10", 0, api.ErrCodeEnd},        // likewise
		{"05 0f a0", 0, api.ErrCodeOperand}, // 4000
		{"05 0f 9f", 0, api.OK},             // 3999
		{"06 10 00", 0, api.ErrCodeOperand},
		{"06 ff ff", 0, api.ErrCodeOperand},
		{"02 20", 0, api.ErrCodeOperand},
		{"08 18", 0, api.ErrCodeOperand},
		{"17 29", 0, api.ErrCodeOperand},
		{"18 64", 0, api.ErrCodeOperand},
	} {
		i, next, e := code.Take(unhex(t, x.b), x.at)
		if e != x.e || e != api.OK && (i != (api.Ins{}) || next != x.at) {
			t.Errorf("Take(%s, %d) = %v, %d, %v, want %v", x.b, x.at, i, next, e, x.e)
		}
	}
}

func TestP84Bytes(t *testing.T) {
	all := table(t)
	l := rights(all)
	var want []byte
	for _, i := range l {
		b, _ := laid(all, i)
		want = append(want, b...)
	}
	if got, e := code.Bytes(l); !bytes.Equal(got, want) || e != api.OK {
		t.Errorf("Bytes of all instructions that are right: %d bytes, %v", len(got), e)
	}
	for _, none := range [][]api.Ins{nil, {}, l[:0]} {
		if got, e := code.Bytes(none); len(got) != 0 || e != api.OK {
			t.Errorf("Bytes of none = % x, %v", got, e)
		}
	}
}

// The first one that Put refuses says the error, whatever stands about it.
func TestP84BytesRefused(t *testing.T) {
	all := table(t)
	bad := []api.Ins{ins(0, 0), ins(42, 5), ins(-1, -1), ins(api.OpPop, 1), ins(api.OpGet, 32), ins(api.OpJump, 4000), ins(api.OpCall, -1)}
	good := []api.Ins{ins(api.OpConst, 99), ins(api.OpUnless, 3999), ins(api.OpRet, 0)}
	for _, first := range bad {
		_, want := laid(all, first)
		for _, second := range bad {
			for n := range len(good) + 1 {
				l := slices.Concat(good[:n], []api.Ins{first}, good[n:], []api.Ins{second})
				if got, e := code.Bytes(l); len(got) != 0 || e != want {
					t.Errorf("Bytes(%v) = % x, %v, want %v", l, got, e, want)
				}
			}
		}
	}
}

// list holds List against the chapter's words.
func list(t *testing.T, all []api.Info, known map[string]api.Ins, b []byte) api.Errno {
	t.Helper()
	want, wantPlaces, wantAt, wantE := listed(all, known, b)
	got, places, at, e := code.List(b)
	if !slices.Equal(got, want) || !slices.Equal(places, wantPlaces) || at != wantAt || e != wantE {
		t.Errorf("List(% x) = %v, %v, %d, %v, want %v, %v, %d, %v", b, got, places, at, e, want, wantPlaces, wantAt, wantE)
	}
	if e == api.OK {
		if again, e := code.Bytes(got); !bytes.Equal(again, b) || e != api.OK {
			t.Errorf("Bytes of List(% x) = % x, %v", b, again, e)
		}
	}
	return e
}

func TestP84EveryShortRow(t *testing.T) {
	all := table(t)
	known := readings(all)
	seen := map[api.Errno]int{}
	// One byte of each sort: operations with operands of none, one and two bytes, bytes of which some are beyond bounds, and none.
	some := []byte{0, 1, 2, 4, 5, 6, 8, 9, 15, 23, 24, 31, 32, 40, 41, 42, 99, 100, 159, 160, 255}
	var walk func(b []byte)
	walk = func(b []byte) {
		seen[list(t, all, known, b)]++
		if len(b) < 4 {
			for _, c := range some {
				walk(append(slices.Clone(b), c))
			}
		}
	}
	walk(nil)
	for _, e := range []api.Errno{api.OK, api.ErrCodeOp, api.ErrCodeEnd, api.ErrCodeOperand} {
		if seen[e] < 1000 {
			t.Errorf("the test asks too little: %v", seen)
		}
	}
}

// randomly is a row of instructions that are right.
func randomly(dice *rand.Rand, all []api.Info) []api.Ins {
	var l []api.Ins
	for range dice.Intn(30) {
		op := 1 + dice.Intn(41)
		l = append(l, ins(op, dice.Intn(tops[all[op].Operand]+1)))
	}
	return l
}

func TestP84Random(t *testing.T) {
	all := table(t)
	known := readings(all)
	dice := rand.New(rand.NewSource(8))
	seen := map[api.Errno]int{}
	for range 20000 {
		b, e := code.Bytes(randomly(dice, all))
		if e != api.OK {
			t.Fatalf("Bytes of right instructions: %v", e)
		}
		seen[list(t, all, known, b)]++
		if len(b) > 0 {
			seen[list(t, all, known, b[:dice.Intn(len(b))])]++
			b[dice.Intn(len(b))] = byte(dice.Intn(256))
			seen[list(t, all, known, b)]++
		}
	}
	for _, e := range []api.Errno{api.OK, api.ErrCodeOp, api.ErrCodeEnd, api.ErrCodeOperand} {
		if seen[e] < 300 {
			t.Errorf("the test asks too little: %v", seen)
		}
	}
}

// Where several are wrong the first one is told, at its own place, with no lists.
func TestP84ListRefused(t *testing.T) {
	for _, x := range []struct {
		b  string
		at int
		e  api.Errno
	}{
		{"00", 0, api.ErrCodeOp},
		{"04 00", 1, api.ErrCodeOp},
		{"01 00 05 00", 2, api.ErrCodeEnd},
		{"01 00 05 00 00 01", 5, api.ErrCodeEnd},
		{"05 00 00 2a 01 64", 3, api.ErrCodeOp},
		{"01 64 2a", 0, api.ErrCodeOperand},
		{"09 02 20 05", 1, api.ErrCodeOperand},
		{"01", 0, api.ErrCodeEnd},
	} {
		l, places, at, e := code.List(unhex(t, x.b))
		if len(l) != 0 || len(places) != 0 || at != x.at || e != x.e {
			t.Errorf("List(%s) = %v, %v, %d, %v, want %d, %v", x.b, l, places, at, e, x.at, x.e)
		}
	}
}

func TestFollowsListOfBytes(t *testing.T) {
	all := table(t)
	dice := rand.New(rand.NewSource(88))
	rows := [][]api.Ins{nil, rights(all)}
	for range 5000 {
		rows = append(rows, randomly(dice, all))
	}
	for _, l := range rows {
		b, e := code.Bytes(l)
		if e != api.OK {
			t.Fatalf("Bytes of %d right instructions: %v", len(l), e)
		}
		again, places, at, e := code.List(b)
		if !slices.Equal(again, l) || len(places) != len(l) || at != 0 || e != api.OK {
			t.Errorf("List of Bytes of %d instructions: %d instructions, %d places, %d, %v", len(l), len(again), len(places), at, e)
		}
		for n, place := range places {
			if i, _, e := code.Take(b, place); i != l[n] || e != api.OK {
				t.Errorf("at the place %d, told of the instruction %d, stands %v, %v", place, n, i, e)
			}
		}
	}
}

func TestFollowsNoBeginningOfAnother(t *testing.T) {
	all := table(t)
	var rows []string
	for _, i := range rights(all) {
		b, e := code.Put(nil, i)
		if e != api.OK {
			t.Fatalf("Put(none, %v): %v", i, e)
		}
		rows = append(rows, string(b))
	}
	// In order each row stands right ahead of one that it begins.
	slices.Sort(rows)
	for i := 1; i < len(rows); i++ {
		if strings.HasPrefix(rows[i], rows[i-1]) {
			t.Errorf("% x begins % x", rows[i-1], rows[i])
		}
	}
}

// spared is a row of bytes with spare room that is marked.
func spared(b ...byte) []byte {
	whole := append(slices.Clone(b), 0xee, 0xee, 0xee, 0xee, 0xee, 0xee, 0xee, 0xee)
	return whole[:len(b):len(whole)]
}

// kept: is the row as it was, its spare room too?
func kept(b []byte, was ...byte) bool {
	return bytes.Equal(b, was) && bytes.Equal(b[len(b):cap(b)], bytes.Repeat([]byte{0xee}, 8))
}

func TestR3PutIsNewMemory(t *testing.T) {
	for _, was := range [][]byte{{}, {7}, {1, 2, 3, 4, 5}} {
		b := spared(was...)
		one, e1 := code.Put(b, ins(api.OpJump, 300))
		two, e2 := code.Put(b, ins(api.OpUnless, 7))
		if e1 != api.OK || e2 != api.OK || !kept(b, was...) {
			t.Fatalf("Put has changed what it was handed: % x", b[:cap(b)])
		}
		for _, row := range [][]byte{one[:cap(one)], two[:cap(two)]} {
			for i := range row {
				row[i] = 0xdd
			}
		}
		if !kept(b, was...) {
			t.Errorf("what Put answers shares memory with what it was handed: % x", b[:cap(b)])
		}
		if one, e := code.Put(b, ins(api.OpJump, 300)); !bytes.Equal(one, slices.Concat(was, []byte{5, 1, 44})) || e != api.OK {
			t.Errorf("Put behind % x, again: % x, %v", was, one, e)
		}
	}
}

func TestR3RefusedPutChangesNothing(t *testing.T) {
	b := spared(1, 2, 3)
	for _, i := range []api.Ins{ins(0, 0), ins(42, 0), ins(api.OpGet, 32), ins(api.OpJump, 4000)} {
		if got, e := code.Put(b, i); len(got) != 0 || e == api.OK || !kept(b, 1, 2, 3) {
			t.Errorf("Put(1 2 3, %v) = % x, %v; left: % x", i, got, e, b[:cap(b)])
		}
	}
}

// Two answers of one row share nothing, and what is handed in is left as it is.
func TestR3BytesAndListAreNewMemory(t *testing.T) {
	l := []api.Ins{ins(api.OpConst, 3), ins(api.OpJump, 300), ins(api.OpRet, 0)}
	wasList := slices.Clone(l)
	was := []byte{1, 3, 5, 1, 44, 9}
	one, _ := code.Bytes(l)
	two, _ := code.Bytes(l)
	for i := range one[:cap(one)] {
		one[:cap(one)][i] = 0xdd
	}
	if !bytes.Equal(two, was) || !slices.Equal(l, wasList) {
		t.Errorf("Bytes: % x, %v", two, l)
	}
	b := spared(was...)
	first, firstPlaces, _, _ := code.List(b)
	second, secondPlaces, _, _ := code.List(b)
	for i := range first[:cap(first)] {
		first[:cap(first)][i] = ins(-1, -1)
	}
	for i := range firstPlaces[:cap(firstPlaces)] {
		firstPlaces[:cap(firstPlaces)][i] = -1
	}
	if !slices.Equal(second, wasList) || !slices.Equal(secondPlaces, []int{0, 2, 5}) || !kept(b, was...) {
		t.Errorf("List: %v, %v; left: % x", second, secondPlaces, b[:cap(b)])
	}
	if _, _, e := code.Take(b, 2); e != api.OK || !kept(b, was...) {
		t.Errorf("Take: %v; left: % x", e, b[:cap(b)])
	}
}

// Long rows are gone through once: these would not end in time else.
func TestR1LongRows(t *testing.T) {
	const many = 1 << 20
	l := make([]api.Ins, many)
	for i := range l {
		l[i] = ins(api.OpJump, i%4000)
	}
	b, e := code.Bytes(l)
	if len(b) != 3*many || e != api.OK {
		t.Fatalf("Bytes of %d instructions: %d bytes, %v", many, len(b), e)
	}
	again, places, _, e := code.List(b)
	if !slices.Equal(again, l) || len(places) != many || places[many-1] != 3*(many-1) || e != api.OK {
		t.Errorf("List of %d bytes: %d instructions, %v", len(b), len(again), e)
	}
	if _, _, at, e := code.List(b[:len(b)-1]); at != 3*(many-1) || e != api.ErrCodeEnd {
		t.Errorf("List of all bytes but one: %d, %v", at, e)
	}
}
