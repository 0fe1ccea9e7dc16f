package verify_test

import (
	"math"
	"math/rand"
	"slices"
	"strconv"
	"strings"
	"testing"

	"scruple/api"
	"scruple/asm"
	"scruple/module"
	"scruple/verify"
)

// document is what DOC.md's table says of each operation, by rising numbers:
// its name, its operand, what it takes and what it gives (* hangs on its operand).
const document = `
const c 0 1, get l 0 1, set l 1 0, pop - 1 0, jump p 0 0, unless p 1 0, test - 1 1, call f * 1, ret - 1 0,
add - 2 1, sub - 2 1, mul - 2 1, div - 2 1, rem - 2 1, neg - 1 1, not - 1 1,
eq - 2 1, ne - 2 1, lt - 2 1, le - 2 1, gt - 2 1, ge - 2 1,
array n * 1, record c * 1, index - 2 1, field c 1 1, len - 1 1,
push - 2 1, change - 3 1, slice - 3 1, with - 3 1, without - 2 1, keys - 1 1, has - 2 1, kind - 1 1,
digest - 1 1, abort - 1 1, load - 1 1, save - 2 1, drop - 1 1, after - 1 1`

// row is one of the document's.
type row struct {
	name, operand string
	takes, gives  int // takes is -1 where it hangs on the operand
}

// rows are the document's, each at its operation's number.
func rows() []row {
	all := []row{{}}
	for s := range strings.SplitSeq(document, ",") {
		w := strings.Fields(s)
		takes, gives := -1, int(w[3][0]-'0')
		if w[2] != "*" {
			takes = int(w[2][0] - '0')
		}
		all = append(all, row{w[0], w[1], takes, gives})
	}
	if len(all) != 42 {
		panic("the document has " + strconv.Itoa(len(all)-1) + " rows")
	}
	return all
}

var told = rows()

// ins is an instruction of a code, as the model reads it.
type ins struct{ op, a, at, next int }

// readCode is the code's instructions, or -1 and the place at which none stands.
func readCode(c string) ([]ins, int) {
	most := map[string]int{"c": 99, "l": 31, "f": 23, "n": 40, "p": 3999, "-": 0}
	var out []ins
	for at := 0; at < len(c); {
		op := int(c[at])
		if op < 1 || op > 41 {
			return nil, at
		}
		size := map[string]int{"-": 0, "p": 2, "c": 1, "l": 1, "f": 1, "n": 1}[told[op].operand]
		if at+1+size > len(c) {
			return nil, at
		}
		a := 0
		for _, x := range []byte(c[at+1 : at+1+size]) {
			a = a*256 + int(x)
		}
		if a > most[told[op].operand] {
			return nil, at
		}
		out = append(out, ins{op, a, at, at + 1 + size})
		at += 1 + size
	}
	return out, -1
}

// operandFault is the model's: what stands in part 2 of the chapter's words.
func operandFault(m api.Module, f api.Func, all []ins, i ins) api.Errno {
	switch told[i.op].operand {
	case "c":
		if i.a >= len(m.Consts) {
			return api.ErrVerifyOperand
		}
		c := m.Consts[i.a]
		if told[i.op].name == "field" && c.Kind != api.Bytes {
			return api.ErrVerifyOperand
		}
		if told[i.op].name == "record" {
			if c.Kind != api.Array {
				return api.ErrVerifyOperand
			}
			for _, x := range c.L {
				if x.Kind != api.Bytes {
					return api.ErrVerifyOperand
				}
			}
		}
	case "l":
		if i.a >= f.Locals {
			return api.ErrVerifyOperand
		}
	case "f":
		if i.a >= len(m.Funcs) {
			return api.ErrVerifyOperand
		}
	case "p":
		for _, x := range all {
			if x.at == i.a {
				return api.OK
			}
		}
		return api.ErrVerifyTarget
	}
	return api.OK
}

// takes is how many values an instruction takes.
func takes(m api.Module, i ins) int {
	switch told[i.op].name {
	case "call":
		return m.Funcs[i.a].Params
	case "array":
		return i.a
	case "record":
		return len(m.Consts[i.a].L)
	}
	return told[i.op].takes
}

// leads are the places where an instruction leads.
func leads(i ins) []int {
	switch told[i.op].name {
	case "ret":
		return nil
	case "jump":
		return []int{i.a}
	case "unless":
		return []int{i.next, i.a}
	}
	return []int{i.next}
}

// model is a second reading of the chapter: it keeps a row of places, in which
// the least that waits is looked for from the left each time.
func model(m api.Module, number int) ([]int, api.Fault) {
	f := m.Funcs[number]
	fault := func(e api.Errno, at int) ([]int, api.Fault) { return nil, api.Fault{Code: e, Func: number, At: at} }
	all, wrong := readCode(f.Code)
	if wrong >= 0 {
		return fault(api.ErrVerifyCode, wrong)
	}
	if f.Code == "" {
		return fault(api.ErrVerifyEnd, 0)
	}
	for _, i := range all {
		if e := operandFault(m, f, all, i); e != api.OK {
			return fault(e, i.at)
		}
	}
	height, waits := make([]int, len(f.Code)), make([]bool, len(f.Code))
	for at := range height {
		height[at] = -1
	}
	height[0], waits[0] = 0, true
	for slices.Contains(waits, true) {
		at := slices.Index(waits, true)
		waits[at] = false
		i := all[slices.IndexFunc(all, func(x ins) bool { return x.at == at })]
		if takes(m, i) > height[at] {
			return fault(api.ErrVerifyUnder, at)
		}
		there := height[at] - takes(m, i) + told[i.op].gives
		if there > f.Stack {
			return fault(api.ErrVerifyOver, at)
		}
		for _, next := range leads(i) {
			switch {
			case next == len(f.Code):
				return fault(api.ErrVerifyEnd, at)
			case height[next] >= 0 && height[next] != there:
				return fault(api.ErrVerifyJoin, at)
			case height[next] < 0:
				height[next], waits[next] = there, true
			}
		}
	}
	var out []int
	for _, i := range all {
		out = append(out, height[i.at])
	}
	return out, api.Fault{}
}

// first is the model's answer of a whole module that is right.
func first(m api.Module) api.Fault {
	for f := range m.Funcs {
		if _, fault := model(m, f); fault != (api.Fault{}) {
			return fault
		}
	}
	return api.Fault{}
}

func show(m api.Module) string {
	s, _ := asm.Print(m)
	return strings.ReplaceAll(s, "\n", "/")
}

// agree holds both calls against the model, and answers the module's fault.
func agree(t *testing.T, m api.Module) api.Fault {
	t.Helper()
	got := verify.Module(m)
	if want := first(m); got != want {
		t.Fatalf("Module of %s = %v, want %v", show(m), got, want)
	}
	for f := range m.Funcs {
		l, fault := verify.Heights(m, f)
		wantL, want := model(m, f)
		if fault != want || !slices.Equal(l, wantL) {
			t.Fatalf("Heights of %s, %d = %v, %v, want %v, %v", show(m), f, l, fault, wantL, want)
		}
	}
	return got
}

func made(t *testing.T, s string) api.Module {
	t.Helper()
	m, line, e := asm.Parse(strings.ReplaceAll(s, "/", "\n"))
	if e != api.OK {
		t.Fatalf("asm.Parse of %s: line %d, %v", s, line, e)
	}
	return m
}

// holds asks that a module has just that fault, by the calls and by the model.
func holds(t *testing.T, s string, want api.Fault) {
	t.Helper()
	if got := agree(t, made(t, s)); got != want {
		t.Errorf("Module of %s = %v, want %v", s, got, want)
	}
}

func at(e api.Errno, place int) api.Fault { return api.Fault{Code: e, At: place} }

func TestExamples(t *testing.T) {
	holds(t, "", api.Fault{})
	holds(t, ".func 0 0 1/.export f 0", at(api.ErrVerifyEnd, 0))
	holds(t, ".const unit/.func 0 0 1/const 0/ret", api.Fault{})
	holds(t, ".func 0 0 1/.bytes 00", at(api.ErrVerifyCode, 0))
	holds(t, ".func 0 0 1/const 0/ret", at(api.ErrVerifyOperand, 0))
	holds(t, ".func 0 1 1/get 1/ret", at(api.ErrVerifyOperand, 0))
	holds(t, ".func 0 0 1/call 1/ret", at(api.ErrVerifyOperand, 0))
	holds(t, ".const 1/.func 0 0 1/jump 4/const 0/ret", at(api.ErrVerifyTarget, 0))
	holds(t, ".func 0 0 1/pop/ret", at(api.ErrVerifyUnder, 0))
	holds(t, ".const 1/.func 0 0 1/const 0/const 0/ret", at(api.ErrVerifyOver, 2))
	holds(t, ".const 1/.func 0 0 1/const 0", at(api.ErrVerifyEnd, 0))
	holds(t, ".const true/.func 0 0 2/const 0/unless 7/const 0/const 0/ret", at(api.ErrVerifyJoin, 5))
	holds(t, ".const 1/.func 0 0 1/const 0/ret/add", api.Fault{})
	holds(t, ".const [1]/.func 0 0 1/record 0/ret", at(api.ErrVerifyOperand, 0))
	holds(t, `.const ["b", "a"]/.func 0 0 1/record 0/ret`, at(api.ErrVerifyUnder, 0))
	l, fault := verify.Heights(made(t, ".const 1/.func 0 0 1/const 0/ret/add"), 0)
	if !slices.Equal(l, []int{0, 1, -1}) || fault != (api.Fault{}) {
		t.Errorf("Heights = %v, %v", l, fault)
	}
}

// The eighth of DOC.md's examples of the whole.
func TestExampleOfTheWhole(t *testing.T) {
	m := api.Module{Funcs: []api.Func{{Stack: 40, Code: "\x0a\x09"}}}
	if got := agree(t, m); got != at(api.ErrVerifyUnder, 0) {
		t.Errorf("Module = %v", got)
	}
}

func TestP121Form(t *testing.T) {
	fine := func() api.Module {
		return made(t, ".const 1/.func 0 0 1/const 0/ret/.func 1 2 3/get 0/ret/.export f 1")
	}
	if fault := verify.Module(fine()); fault != (api.Fault{}) {
		t.Fatalf("Module = %v", fault)
	}
	itself := api.Value{Kind: api.Array, L: make([]api.Value, 1)}
	itself.L[0] = itself
	for name, spoil := range map[string]func(m *api.Module){
		"a constant of no kind":    func(m *api.Module) { m.Consts[0].Kind = 6 },
		"a constant in itself":     func(m *api.Module) { m.Consts[0] = itself },
		"101 constants":            func(m *api.Module) { m.Consts = make([]api.Value, 101) },
		"a stack of 41":            func(m *api.Module) { m.Funcs[1].Stack = 41 },
		"a stack below 0":          func(m *api.Module) { m.Funcs[1].Stack = -1 },
		"fewer locals than params": func(m *api.Module) { m.Funcs[1].Params = 3 },
		"33 locals":                func(m *api.Module) { m.Funcs[1].Locals = 33 },
		"9 params":                 func(m *api.Module) { m.Funcs[1].Params, m.Funcs[1].Locals = 9, 9 },
		"a code of 4001":           func(m *api.Module) { m.Funcs[1].Code = strings.Repeat("\x09", 4001) },
		"25 functions":             func(m *api.Module) { m.Funcs = make([]api.Func, 25) },
		"an export of none":        func(m *api.Module) { m.Exports[0].Func = 2 },
		"no name":                  func(m *api.Module) { m.Exports[0].Name = "" },
		"names that do not rise":   func(m *api.Module) { m.Exports = append(m.Exports, m.Exports[0]) },
		"more bytes than may be":   func(m *api.Module) { *m = heavy(65537) },
		"a fault ahead of that":    func(m *api.Module) { m.Funcs[0].Code, m.Funcs[1].Stack = "", 41 },
		"a fault behind that":      func(m *api.Module) { m.Funcs[0].Stack, m.Funcs[1].Code = 41, "\x00" },
	} {
		m := fine()
		spoil(&m)
		if fault := verify.Module(m); fault != (api.Fault{Code: api.ErrVerifyForm}) {
			t.Errorf("%s: Module = %v", name, fault)
		}
		for _, f := range []int{-1, 0, 1, 2} {
			if l, fault := verify.Heights(m, f); len(l) != 0 || fault != (api.Fault{Code: api.ErrVerifyForm}) {
				t.Errorf("%s: Heights of %d = %v, %v", name, f, l, fault)
			}
		}
	}
}

// heavy is a module of so many bytes, whose functions are verified.
func heavy(size int) api.Module {
	m := api.Module{Consts: []api.Value{{}}}
	code := func(n int) string { return "\x01\x00\x09" + strings.Repeat("\x09", n-3) }
	for range 16 {
		m.Funcs = append(m.Funcs, api.Func{Stack: 1, Code: code(4000)})
	}
	m.Funcs = append(m.Funcs, api.Func{Stack: 1, Code: code(1000)})
	b, e := module.Encode(m)
	if e != api.OK {
		panic("no module")
	}
	m.Funcs[16].Code = code(1000 + size - len(b))
	return m
}

func TestP121Heaviest(t *testing.T) {
	m := heavy(65536)
	if b, e := module.Encode(m); len(b) != 65536 || e != api.OK {
		t.Fatalf("%d bytes, %v", len(b), e)
	}
	if fault := verify.Module(m); fault != (api.Fault{}) {
		t.Errorf("Module = %v", fault)
	}
}

// Of several functions the first one's fault is told, whatever the numbers of
// their errors and places are.
func TestP121FirstFunction(t *testing.T) {
	const good = "/.func 0 0 2/const 0/ret"
	bad := []struct {
		text  string
		fault api.Fault
	}{
		{"/.func 0 0 1", at(api.ErrVerifyEnd, 0)},
		{"/.func 0 0 1/const 0/.bytes 00", at(api.ErrVerifyCode, 2)},
		{"/.func 0 0 1/const 0/ret/const 1", at(api.ErrVerifyOperand, 3)},
		{"/.func 0 0 1/jump 3/jump 7", at(api.ErrVerifyTarget, 3)},
		{"/.func 0 0 1/const 0/pop/pop", at(api.ErrVerifyUnder, 3)},
		{"/.func 0 0 0/jump 3/const 0/ret", at(api.ErrVerifyOver, 3)},
		{"/.func 0 0 2/const 0/const 0/jump 2", at(api.ErrVerifyJoin, 4)},
		{"/.func 0 0 2/const 0/jump 5/pop", at(api.ErrVerifyEnd, 5)},
	}
	for _, x := range bad {
		for _, y := range bad {
			for ahead := range 3 {
				want := x.fault
				want.Func = ahead
				holds(t, ".const 1"+strings.Repeat(good, ahead)+x.text+good+y.text, want)
			}
		}
	}
	last := api.Fault{Code: api.ErrVerifyEnd, Func: 23}
	holds(t, ".const 1"+strings.Repeat(good, 23)+"/.func 0 0 1", last)
}

// Part 1 of a function's faults: bytes that are no instructions, wherever they
// stand, and none at all.
func TestP121Code(t *testing.T) {
	for b := range 256 {
		m := api.Module{Consts: []api.Value{{}}, Funcs: []api.Func{{Stack: 1, Code: "\x01\x00\x09" + string([]byte{byte(b)})}}}
		got := agree(t, m)
		if b == 0 || b > 41 || told[b].operand != "-" {
			if got != at(api.ErrVerifyCode, 3) {
				t.Errorf("%d behind ret: %v", b, got)
			}
		} else if got != (api.Fault{}) {
			t.Errorf("%d behind ret: %v", b, got)
		}
	}
	holds(t, ".func 0 0 40/pop/const 9/jump 77/.bytes 2a", at(api.ErrVerifyCode, 6)) // ahead of all other faults
	holds(t, ".func 0 0 40/.bytes 050f", at(api.ErrVerifyCode, 0))
	holds(t, ".func 0 0 40/ret/.bytes 050fa0", at(api.ErrVerifyCode, 1)) // the place 4000
	holds(t, ".func 0 0 40/ret/.bytes 0164", at(api.ErrVerifyCode, 1))   // the constant 100
	holds(t, ".func 0 0 40/ret/.bytes 0220", at(api.ErrVerifyCode, 1))   // the local 32
	holds(t, ".func 0 0 40/ret/.bytes 0818", at(api.ErrVerifyCode, 1))   // the function 24
	holds(t, ".func 0 0 40/ret/.bytes 1729", at(api.ErrVerifyCode, 1))   // an array of 41
}

// Part 2: operands that name nothing, at the edges of what there is.
func TestP121Operand(t *testing.T) {
	for _, n := range []int{0, 1, 2, 31, 32} {
		for _, op := range []string{"get", "set"} {
			for _, local := range []int{0, 1, 2, 30, 31} {
				s := ".const 1/.func 0 " + strconv.Itoa(n) + " 1/const 0/ret/" + op + " " + strconv.Itoa(local)
				want := at(api.ErrVerifyOperand, 3)
				if local < n {
					want = api.Fault{}
				}
				holds(t, s, want)
			}
		}
	}
	for _, n := range []int{1, 2, 99, 100} {
		for _, c := range []int{0, 1, 2, 98, 99} {
			s := strings.Repeat(".const []/", n) + ".func 0 0 1/const 0/ret/"
			want := at(api.ErrVerifyOperand, 3)
			if c < n {
				want = api.Fault{}
			}
			holds(t, s+"const "+strconv.Itoa(c), want)
			holds(t, s+"record "+strconv.Itoa(c), want)
			holds(t, strings.ReplaceAll(s, "[]", `""`)+"field "+strconv.Itoa(c), want)
		}
	}
	for _, n := range []int{1, 2, 23, 24} {
		for _, f := range []int{0, 1, 2, 22, 23} {
			want := at(api.ErrVerifyOperand, 3)
			if f < n {
				want = api.Fault{}
			}
			holds(t, ".const 1/.func 0 0 1/const 0/ret/call "+strconv.Itoa(f)+strings.Repeat("/.func 0 0 1/const 0/ret", n-1), want)
		}
	}
	holds(t, ".func 0 0 1/const 0/ret", at(api.ErrVerifyOperand, 0))
	holds(t, ".func 0 0 1/record 0/ret", at(api.ErrVerifyOperand, 0))
	holds(t, ".func 0 0 1/field 0/ret", at(api.ErrVerifyOperand, 0))
}

// Which constants record and field may name.
func TestP121OperandKinds(t *testing.T) {
	const other, record, field = 0, 1, 2
	for c, may := range map[string]int{
		"unit": other, "true": other, "1": other, "{}": other, `{"a": "a"}`: other,
		`""`: field, `"a"`: field, `"` + strings.Repeat("k", 33) + `"`: field,
		"[]": record, `[""]`: record, `["a"]`: record, `["b", "a"]`: record, `["a", "a"]`: record, `["` + strings.Repeat("k", 33) + `"]`: record,
		"[1]": other, `["a", 1]`: other, `[1, "a"]`: other, `["a", unit, "b"]`: other, `[["a"]]`: other, "[[]]": other,
	} {
		// Behind ret: what they take does not count there.
		s := ".const 1/.const " + c + "/.func 0 0 1/const 0/ret/"
		for op, bit := range map[string]int{"const": other, "record": record, "field": field} {
			want := at(api.ErrVerifyOperand, 3)
			if op == "const" || may&bit != 0 {
				want = api.Fault{}
			}
			holds(t, s+op+" 1", want)
		}
	}
}

func TestP121Target(t *testing.T) {
	const code = "/const 0/unless 5/jump 8/const 0/ret" // 0, 2, 5, 8, 10: 11 bytes
	holds(t, ".const true/.func 0 0 1"+code, api.Fault{})
	begins := []int{0, 2, 5, 8, 10, 11}
	for _, op := range []string{"jump", "unless"} {
		for place := range 30 {
			// Behind ret, where no way leads, so that only the target is asked for.
			want := at(api.ErrVerifyTarget, 11)
			if slices.Contains(begins, place) {
				want = api.Fault{}
			}
			holds(t, ".const true/.func 0 0 1"+code+"/"+op+" "+strconv.Itoa(place), want)
		}
	}
	holds(t, ".func 0 0 0/jump 3", at(api.ErrVerifyTarget, 0)) // the end is no instruction's place
	holds(t, ".func 0 0 0/jump 3999", at(api.ErrVerifyTarget, 0))
}

// The faults of part 2 are told instruction by instruction, ahead of all heights.
func TestP121Order(t *testing.T) {
	holds(t, ".func 0 0 0/pop/jump 2/const 0", at(api.ErrVerifyTarget, 1))
	holds(t, ".func 0 0 0/pop/const 0/jump 2", at(api.ErrVerifyOperand, 1))
	holds(t, ".func 0 0 0/pop/pop/get 0", at(api.ErrVerifyOperand, 2))
	holds(t, ".const 1/.func 0 0 0/const 0/pop", at(api.ErrVerifyOver, 0))
	holds(t, ".func 0 0 0/add", at(api.ErrVerifyUnder, 0))                                                   // not ErrVerifyOver, not ErrVerifyEnd
	holds(t, ".const 1/.func 0 0 1/const 0/const 0", at(api.ErrVerifyOver, 2))                               // not ErrVerifyEnd
	holds(t, ".const 1/.func 0 0 2/const 0/const 0/unless 0", at(api.ErrVerifyEnd, 4))                       // not ErrVerifyJoin
	holds(t, ".const 1/.func 0 0 2/const 0/const 0/unless 0/pop/ret", at(api.ErrVerifyJoin, 4))              // ahead of ErrVerifyUnder
	holds(t, ".const 1/.func 0 0 2/const 0/unless 6/pop/const 0/ret", at(api.ErrVerifyUnder, 5))             // 5 is less than 6
	holds(t, ".const 1/.func 0 0 1/jump 4/pop/const 0/unless 3/ret", at(api.ErrVerifyUnder, 3))              // 3 is less than 9
	holds(t, ".const 1/.func 0 0 1/jump 6/const 0/ret/const 0/unless 3/pop/ret", at(api.ErrVerifyUnder, 11)) // 3 is looked at first, and is right
}

// What each operation takes and gives: with just as many values it goes, with
// one less it does not; the stack must have room for what is there behind it.
func TestP121TakesAndGives(t *testing.T) {
	const consts = ".const true/.const \"k\"/.const [\"a\", \"b\", \"c\"]"
	for op := 1; op <= 41; op++ {
		x := told[op]
		need, text := x.takes, x.name
		switch {
		case x.name == "call":
			need, text = 2, "call 1"
		case x.name == "array":
			need, text = 4, "array 4"
		case x.name == "record":
			need, text = 3, "record 2"
		case x.operand == "c":
			text += " 1"
		case x.operand == "l":
			text += " 0"
		}
		for have := range 6 {
			for stack := range 8 {
				line := text
				if x.operand == "p" {
					line += " " + strconv.Itoa(2*have+3)
				}
				s := consts + "/.func 0 1 " + strconv.Itoa(stack) + strings.Repeat("/const 0", have) + "/" + line + "/const 0/ret/.func 2 2 1/const 0/ret"
				want := api.Fault{}
				there := have - need + x.gives
				switch {
				case stack < have:
					want = at(api.ErrVerifyOver, 2*stack)
				case have < need:
					want = at(api.ErrVerifyUnder, 2*have)
				case there > stack:
					want = at(api.ErrVerifyOver, 2*have)
				case x.name != "ret" && there+1 > stack:
					want = at(api.ErrVerifyOver, 2*have+len(code(t, line)))
				}
				holds(t, s, want)
			}
		}
	}
}

// code is the bytes of a line.
func code(t *testing.T, line string) string {
	t.Helper()
	return made(t, ".func 0 0 0/"+line).Funcs[0].Code
}

func TestP121CallParams(t *testing.T) {
	for params := range 9 {
		for have := range 10 {
			n := strconv.Itoa(params)
			s := ".const 1/.func 0 0 40" + strings.Repeat("/const 0", have) + "/call 1/ret/.func " + n + " " + n + " 1/const 0/ret"
			want := api.Fault{}
			if have < params {
				want = at(api.ErrVerifyUnder, 2*have)
			}
			holds(t, s, want)
		}
	}
	holds(t, ".func 0 0 1/call 0/ret", api.Fault{}) // of itself
	holds(t, ".func 8 8 8/get 0/get 1/get 2/get 3/get 4/get 5/get 6/get 7/call 0/ret", api.Fault{})
}

func TestP121FullStack(t *testing.T) {
	full := strings.Repeat("/const 0", 40)
	holds(t, ".const 1/.func 0 0 40"+full+"/array 40/ret", api.Fault{})
	holds(t, ".const 1/.func 0 0 40"+full+"/ret", api.Fault{})
	holds(t, ".const 1/.func 0 0 39"+full+"/array 40/ret", at(api.ErrVerifyOver, 78))
	holds(t, ".const 1/.func 0 0 40"+full+"/array 0/ret", at(api.ErrVerifyOver, 80))
	holds(t, ".const 1/.func 0 0 40"+full+"/const 0/ret", at(api.ErrVerifyOver, 80))
	holds(t, ".const 1/.func 0 0 40"+full+"/pop/const 0/array 39/array 2/ret", api.Fault{})
	keys := `.const [` + strings.Repeat(`"", `, 40) + `""]`
	holds(t, ".const 1/"+keys+"/.func 0 0 40"+full+"/record 1/ret", at(api.ErrVerifyUnder, 80))
}

// Ways that meet, loops, and code that no way leads to.
func TestP122Heights(t *testing.T) {
	for s, want := range map[string][]int{
		".const unit/.func 0 0 1/const 0/ret":                                        {0, 1},
		".const 1/.func 0 0 1/const 0/ret/pop/ret/add":                               {0, 1, -1, -1, -1},
		".func 0 0 0/jump 0":                                                         {0},
		".func 0 0 0/jump 0/jump 3/jump 0":                                           {0, -1, -1},
		".func 0 0 0/jump 6/jump 0/jump 3":                                           {0, 0, 0},
		".const true/.func 0 0 1/const 0/unless 0/const 0/ret":                       {0, 1, 0, 1},
		".const true/.func 0 0 1/const 0/unless 5/const 0/ret":                       {0, 1, 0, 1},
		".const true/.func 0 0 2/const 0/const 0/unless 8/test/ret":                  {0, 1, 2, 1, 1},
		".const 1/.func 0 1 3/const 0/const 0/const 0/set 0/add/ret/get 0":           {0, 1, 2, 3, 2, 1, -1},
		".const true/.func 0 0 1/const 0/unless 10/const 0/jump 12/const 0/ret":      {0, 1, 0, 1, 0, 1},
		".const true/.func 0 0 1/const 0/unless 10/const 0/ret/ret/ret/const 0/ret":  {0, 1, 0, 1, -1, -1, 0, 1},
		".const 1/.func 0 0 3/jump 6/ret/add/pop/const 0/const 0/const 0/jump 4/ret": nil,
	} {
		m := made(t, s)
		l, fault := verify.Heights(m, 0)
		if !slices.Equal(l, want) || (fault == api.Fault{}) != (want != nil) {
			t.Errorf("Heights of %s = %v, %v, want %v", s, l, fault, want)
		}
		agree(t, m)
	}
}

func TestP122OtherFunctions(t *testing.T) {
	m := made(t, ".const 1/.func 0 0 1/pop/ret/.func 0 0 1/const 0/ret/.func 0 0 1/.func 3 3 3/get 2/call 4/ret/.func 1 1 1/.bytes 00")
	wants := []api.Fault{{Code: api.ErrVerifyUnder}, {}, {Code: api.ErrVerifyEnd, Func: 2}, {}, {Code: api.ErrVerifyCode, Func: 4}}
	for f, want := range wants {
		l, fault := verify.Heights(m, f)
		if fault != want || (len(l) == 0) != (want != api.Fault{}) {
			t.Errorf("Heights of %d = %v, %v, want %v", f, l, fault, want)
		}
	}
	agree(t, m)
}

func TestP122WrongNumber(t *testing.T) {
	m := made(t, ".const 1/.func 0 0 1/const 0/ret/.func 0 0 1/const 0/ret")
	for _, x := range []api.Module{m, {}} {
		for _, f := range []int{-1, -2, len(x.Funcs), len(x.Funcs) + 1, 24, math.MaxInt, math.MinInt, 1 << 32, -1 << 32} {
			if l, fault := verify.Heights(x, f); len(l) != 0 || fault != (api.Fault{Code: api.ErrVerifyForm}) {
				t.Errorf("Heights of %d = %v, %v", f, l, fault)
			}
		}
	}
	// The module's own form is asked for, whatever the number is.
	m.Funcs[1].Stack = 41
	if l, fault := verify.Heights(m, 0); len(l) != 0 || fault != (api.Fault{Code: api.ErrVerifyForm}) {
		t.Errorf("Heights = %v, %v", l, fault)
	}
}

// The greatest code: jumps from one end to the other, and as many ways as may be.
func TestP122Longest(t *testing.T) {
	forth := "\x05\x0f\x9d" + strings.Repeat("\x09", 3994) + "\x05\x00\x00" // jump 3997; ret..; jump 0
	l, fault := verify.Heights(api.Module{Funcs: []api.Func{{Code: forth}}}, 0)
	if fault != (api.Fault{}) || len(l) != 3996 || l[0] != 0 || l[1] != -1 || l[3994] != -1 || l[3995] != 0 {
		t.Errorf("Heights = %d of them, %v", len(l), fault)
	}
	last := "\x05\x0f\x9f" + strings.Repeat("\x09", 3997) // jump 3999, which is a ret
	if _, fault := verify.Heights(api.Module{Funcs: []api.Func{{Code: last}}}, 0); fault != at(api.ErrVerifyUnder, 3999) {
		t.Errorf("Heights = %v", fault)
	}
	// const 0; unless, to places from the end of the code on towards its middle.
	var ways strings.Builder
	for k := range 500 {
		to := 3998 - 3*k
		ways.WriteString("\x01\x00\x06" + string([]byte{byte(to >> 8), byte(to)}))
	}
	ways.WriteString(strings.Repeat("\x01\x00\x04", 500-1) + "\x01\x00\x09")
	m := api.Module{Consts: []api.Value{{Kind: api.Bool}}, Funcs: []api.Func{{Stack: 1, Code: ways.String()}}}
	if len(m.Funcs[0].Code) != 4000 {
		t.Fatalf("%d bytes", len(m.Funcs[0].Code))
	}
	agree(t, m)
}

// alphabet are lines of which short functions are made.
func alphabet(places int) []string {
	l := []string{"const 0", "get 0", "set 0", "pop", "ret", "add", "record 2", "array 2", "call 0", "change", "const 4", "field 1"}
	for p := range places {
		l = append(l, "jump "+strconv.Itoa(p), "unless "+strconv.Itoa(p))
	}
	return l
}

// Every function of at most three instructions out of an alphabet.
func TestShortFunctions(t *testing.T) {
	words := alphabet(5)
	var bytes []string
	for _, w := range words {
		bytes = append(bytes, code(t, w))
	}
	asked := map[api.Errno]int{}
	consts := []api.Value{{}, {Kind: api.Bytes, S: "a"}, {Kind: api.Array, L: []api.Value{{Kind: api.Bytes}}}}
	var ask func(c string, left int)
	ask = func(c string, left int) {
		for stack := 1; stack <= 2; stack++ {
			m := api.Module{Consts: consts, Funcs: []api.Func{{Params: 1, Locals: 1, Stack: stack, Code: c}}}
			asked[agree(t, m).Code]++
		}
		if left == 0 {
			return
		}
		for _, b := range bytes {
			ask(c+b, left-1)
		}
	}
	ask("", 3)
	for _, e := range []api.Errno{api.OK, api.ErrVerifyOperand, api.ErrVerifyTarget, api.ErrVerifyUnder, api.ErrVerifyOver, api.ErrVerifyEnd} {
		if asked[e] == 0 {
			t.Errorf("the test asks too little: %v", asked)
		}
	}
}

// Every code of two bytes, and of three with one that leads to another place.
func TestShortCodes(t *testing.T) {
	consts := []api.Value{{}, {Kind: api.Bytes}}
	ask := func(b ...byte) {
		agree(t, api.Module{Consts: consts, Funcs: []api.Func{{Params: 1, Locals: 2, Stack: 1, Code: string(b)}}})
	}
	for x := range 256 {
		ask(byte(x))
		for y := range 256 {
			ask(byte(x), byte(y))
			ask(5, byte(x), byte(y))
			ask(1, byte(x), byte(y))
		}
	}
}

// random is a function's code, most of whose instructions have something to
// take, so that ways go on for long.
func random(r *rand.Rand, n int) string {
	var lines []ins
	place, height := 0, 0
	put := func(op, a, size int) {
		lines = append(lines, ins{op, a, place, 0})
		place += 1 + size
	}
	for len(lines) < n {
		if height > 0 && r.Intn(3) == 0 {
			op := []int{3, 4, 6, 6, 7, 9, 15, 35}[r.Intn(8)]
			switch told[op].operand {
			case "l":
				put(op, r.Intn(3), 1)
			case "p":
				put(op, -1, 2)
			default:
				put(op, 0, 0)
			}
			height += told[op].gives - 1
			continue
		}
		switch x := r.Intn(10); {
		case height >= 2 && x < 5:
			put(10+r.Intn(5), 0, 0)
			height--
		case height >= 2 && x == 5:
			put(23, 2, 1)
			height--
		case height >= 1 && x == 6:
			put(24, 2, 1)
		case height >= 1 && x == 7:
			put(26, 1, 1)
		case height >= 1 && x == 8:
			put(8, 1, 1)
		case x == 9 && r.Intn(2) == 0:
			put(5, -1, 2)
		default:
			put(1, r.Intn(3), 1)
			height++
		}
	}
	put(9, 0, 0)
	var b []byte
	for _, i := range lines {
		a := i.a
		if a < 0 {
			a = lines[r.Intn(len(lines))].at
		}
		b = append(b, byte(i.op))
		switch told[i.op].operand {
		case "p":
			b = append(b, byte(a>>8), byte(a))
		case "-":
		default:
			b = append(b, byte(a))
		}
	}
	return string(b)
}

// randomModule has two functions, of which the second takes one value.
func randomModule(r *rand.Rand) api.Module {
	return api.Module{
		Consts: []api.Value{{}, {Kind: api.Bytes, S: "a"}, {Kind: api.Array, L: []api.Value{{Kind: api.Bytes}}}},
		Funcs: []api.Func{
			{Locals: 3, Stack: 1 + r.Intn(4), Code: random(r, 1+r.Intn(12))},
			{Params: 1, Locals: 3, Stack: 1 + r.Intn(4), Code: random(r, 1+r.Intn(12))},
		},
		Exports: []api.Export{{Name: "f"}},
	}
}

func TestRandomModules(t *testing.T) {
	r := rand.New(rand.NewSource(12))
	asked := map[api.Errno]int{}
	for range 60000 {
		asked[agree(t, randomModule(r)).Code]++
	}
	for _, e := range []api.Errno{api.OK, api.ErrVerifyUnder, api.ErrVerifyOver, api.ErrVerifyJoin} {
		if asked[e] < 300 {
			t.Errorf("the test asks too little: %v", asked)
		}
	}
}

// Bytes that are changed here and there.
func TestRandomBytes(t *testing.T) {
	r := rand.New(rand.NewSource(121))
	asked := map[api.Errno]int{}
	for range 40000 {
		m := randomModule(r)
		c := []byte(m.Funcs[0].Code)
		for range 1 + r.Intn(2) {
			c[r.Intn(len(c))] = byte(r.Intn(45))
		}
		m.Funcs[0].Code = string(c[:r.Intn(len(c)+1)])
		asked[agree(t, m).Code]++
	}
	for _, e := range []api.Errno{api.ErrVerifyCode, api.ErrVerifyOperand, api.ErrVerifyTarget, api.ErrVerifyUnder, api.ErrVerifyOver, api.ErrVerifyJoin, api.ErrVerifyEnd} {
		if asked[e] < 100 {
			t.Errorf("the test asks too little: %v", asked)
		}
	}
}

// On every way through a verified function the stack has as many values as the
// height says, and the end is never met: ways are gone by chance.
func TestFollowsEveryWay(t *testing.T) {
	r := rand.New(rand.NewSource(122))
	gone := 0
	for range 40000 {
		m := randomModule(r)
		l, fault := verify.Heights(m, 0)
		if fault != (api.Fault{}) {
			continue
		}
		all, _ := readCode(m.Funcs[0].Code)
		seen := make([]bool, len(all))
		for range 20 {
			place, stack := 0, 0
			for range 40 {
				k := slices.IndexFunc(all, func(x ins) bool { return x.at == place })
				if k < 0 || stack != l[k] || stack > m.Funcs[0].Stack || takes(m, all[k]) > stack {
					t.Fatalf("%s: at %d there are %d, heights %v", show(m), place, stack, l)
				}
				seen[k] = true
				gone++
				stack += told[all[k].op].gives - takes(m, all[k])
				next := leads(all[k])
				if len(next) == 0 {
					break
				}
				place = next[r.Intn(len(next))]
			}
		}
		for k, was := range seen {
			if was && l[k] < 0 {
				t.Fatalf("%s: a way leads to %d, heights %v", show(m), k, l)
			}
		}
	}
	if gone < 100000 {
		t.Errorf("the test asks too little: %d", gone)
	}
}

// What stands behind, and is not named, changes nothing.
func TestFollowsBehind(t *testing.T) {
	r := rand.New(rand.NewSource(123))
	for range 3000 {
		m := randomModule(r)
		more := m
		more.Consts = append(slices.Clone(m.Consts), api.Value{Kind: api.Int, N: 1}, api.Value{Kind: api.Array})
		more.Funcs = append(slices.Clone(m.Funcs), api.Func{Params: 2, Locals: 2, Code: "\x00"}, api.Func{})
		more.Exports = append(slices.Clone(m.Exports), api.Export{Name: "g", Func: 3}, api.Export{Name: "h", Func: 2})
		for f := range m.Funcs {
			l, fault := verify.Heights(m, f)
			l2, fault2 := verify.Heights(more, f)
			if !slices.Equal(l, l2) || fault != fault2 {
				t.Fatalf("Heights of %s, %d = %v, %v; with more behind %v, %v", show(m), f, l, fault, l2, fault2)
			}
		}
	}
}

// What is handed in stays as it is, its spare room too; answers are new memory.
func TestR3Memory(t *testing.T) {
	r := rand.New(rand.NewSource(124))
	for range 2000 {
		m := randomModule(r)
		funcs, consts := make([]api.Func, 2, 5), make([]api.Value, 3, 6)
		copy(funcs, m.Funcs)
		copy(consts, m.Consts)
		spareF, spareC := api.Func{Params: 7, Code: "spare"}, api.Value{Kind: 9, S: "spare"}
		for i := 2; i < 5; i++ {
			funcs[:5][i] = spareF
		}
		for i := 3; i < 6; i++ {
			consts[:6][i] = spareC
		}
		in := api.Module{Consts: consts, Funcs: funcs, Exports: m.Exports}
		verify.Module(in)
		one, _ := verify.Heights(in, 0)
		two, _ := verify.Heights(in, 0)
		if !slices.Equal(one, two) {
			t.Fatalf("Heights = %v, then %v", one, two)
		}
		if show(in) != show(m) || funcs[:5][2] != spareF || funcs[:5][4] != spareF || consts[:6][3].S != "spare" || consts[:6][5].S != "spare" {
			t.Fatalf("%s has become %s", show(m), show(in))
		}
		was := slices.Clone(two)
		full := one[:cap(one)]
		for i := range full {
			full[i] = 77
		}
		if !slices.Equal(two, was) {
			t.Fatal("two answers share memory")
		}
	}
}

// Nil and empty lists are one.
func TestR3Empty(t *testing.T) {
	for _, m := range []api.Module{{}, {Consts: []api.Value{}, Funcs: []api.Func{}, Exports: []api.Export{}}} {
		if fault := verify.Module(m); fault != (api.Fault{}) {
			t.Errorf("Module = %v", fault)
		}
	}
	for _, keys := range [][]api.Value{nil, {}} {
		m := api.Module{Consts: []api.Value{{Kind: api.Array, L: keys}}, Funcs: []api.Func{{Stack: 1, Code: "\x18\x00\x09"}}}
		if fault := verify.Module(m); fault != (api.Fault{}) {
			t.Errorf("Module = %v", fault)
		}
	}
}
