package step_test

import (
	"fmt"
	"maps"
	"math/rand"
	"slices"
	"strings"

	"scruple/api"
	"scruple/prim"
	"scruple/verify"
)

// document is what DOC.md's table says of each operation, by rising numbers: its name, how many bytes its operand has,
// what it takes (-1: its operand says it), its base and its rate.
const document = `const 1 0 1 0, get 1 0 1 0, set 1 1 1 0, pop 0 1 1 0, jump 2 0 1 0, unless 2 1 2 0, test 0 1 1 0,
call 1 -1 8 0, ret 0 1 1 0, add 0 2 2 1, sub 0 2 2 0, mul 0 2 3 0, div 0 2 3 0, rem 0 2 3 0, neg 0 1 1 0, not 0 1 1 0,
eq 0 2 2 1, ne 0 2 2 1, lt 0 2 2 1, le 0 2 2 1, gt 0 2 2 1, ge 0 2 2 1, array 1 -1 2 1, record 1 -1 2 1,
index 0 2 2 0, field 1 1 2 0, len 0 1 1 0, push 0 2 2 1, change 0 3 2 1, slice 0 3 2 1, with 0 3 2 1, without 0 2 2 1,
keys 0 1 2 1, has 0 2 2 0, kind 0 1 1 0, digest 0 1 20 1, abort 0 1 1 0,
load 0 1 10 1, save 0 2 20 2, drop 0 1 10 1, after 0 1 10 1`

// row is one of the document's.
type row struct {
	name        string
	size, takes int
	base, rate  int64
}

// rows are the document's, each at its operation's number.
func rows() []row {
	out := []row{{}}
	for s := range strings.SplitSeq(document, ",") {
		var r row
		if _, err := fmt.Sscan(s, &r.name, &r.size, &r.takes, &r.base, &r.rate); err != nil {
			panic(err)
		}
		out = append(out, r)
	}
	if len(out) != 42 {
		panic(len(out))
	}
	return out
}

var table = rows()

// weigh is what a right value weighs.
func weigh(v api.Value) int64 {
	w := int64(1 + len(v.S))
	for _, key := range v.K {
		w += int64(1 + len(key))
	}
	for _, x := range v.L {
		w += weigh(x)
	}
	return w
}

// same: element by element, by what the document says of two values.
func same(a, b api.Value) bool {
	return a.Kind == b.Kind && a.N == b.N && a.S == b.S && slices.Equal(a.K, b.K) && slices.EqualFunc(a.L, b.L, same)
}

// model is a second reading of DOC.md's machine: it works on the module's own bytes, and on a map as its store.
type model struct {
	m       api.Module
	store   map[string]api.Value
	left    int64
	frames  []api.Frame
	steps   int64
	outcome api.Outcome
}

// start is a model at the beginning of a run whose errors are none.
func start(m api.Module, f int, args []api.Value, first map[string]api.Value, limit int64) *model {
	x := &model{m: m, store: maps.Clone(first), left: limit}
	if len(args) != m.Funcs[f].Params {
		x.outcome = api.Outcome{Kind: api.Trapped, Trap: api.TrapArity, Left: limit}
		return x
	}
	x.enter(f, args)
	return x
}

// view is what a machine that is as far should show.
func (x *model) view() api.View {
	if x.outcome.Kind != 0 {
		return api.View{Left: x.left, Steps: x.steps, Ended: true, Outcome: x.outcome}
	}
	return api.View{Frames: x.frames, Left: x.left, Steps: x.steps}
}

// next is the instruction that comes next.
func (x *model) next() (api.Ins, bool) {
	if x.outcome.Kind != 0 {
		return api.Ins{}, false
	}
	top := x.frames[len(x.frames)-1]
	code := x.m.Funcs[top.Func].Code[top.At:]
	i := api.Ins{Op: int(code[0])}
	for _, c := range []byte(code[1 : 1+table[i.Op].size]) {
		i.A = 256*i.A + int(c)
	}
	return i, true
}

// room: does the store take v under the key?
func (x *model) room(key string, v api.Value) bool {
	with := maps.Clone(x.store)
	with[key] = v
	weight := 0
	for k, v := range with {
		weight += 1 + len(k) + int(weigh(v))
	}
	return len(with) <= 128 && weight <= 32768
}

func (x *model) enter(f int, args []api.Value) {
	locals := make([]api.Value, x.m.Funcs[f].Locals)
	copy(locals, args)
	x.frames = append(x.frames, api.Frame{Func: f, Locals: locals})
}

// step does one; false: the run has ended.
func (x *model) step() bool {
	i, goesOn := x.next()
	if !goesOn {
		return false
	}
	r, n := table[i.Op], table[i.Op].takes
	switch r.name {
	case "call":
		n = x.m.Funcs[i.A].Params
	case "array":
		n = i.A
	case "record":
		n = len(x.m.Consts[i.A].L)
	}
	top := &x.frames[len(x.frames)-1]
	taken := slices.Clone(top.Stack[len(top.Stack)-n:])
	cost := r.base
	for _, v := range taken {
		cost += r.rate * weigh(v)
	}
	if r.name == "load" && taken[0].Kind == api.Bytes {
		if v, there := x.store[taken[0].S]; there {
			cost += r.rate * weigh(v)
		}
	}
	if cost > x.left {
		x.left, x.outcome = 0, api.Outcome{Kind: api.Spent}
		return true
	}
	x.left -= cost
	x.steps++
	top.Stack = slices.Clone(top.Stack[:len(top.Stack)-n])
	top.At += 1 + r.size
	x.outcome = x.effect(i.Op, i.A, taken)
	return true
}

// effect is what an instruction does with what it has taken.
func (x *model) effect(op, a int, taken []api.Value) api.Outcome {
	top := &x.frames[len(x.frames)-1]
	trap := 0
	var given []api.Value
	switch name := table[op].name; name {
	case "const":
		given = append(given, x.m.Consts[a])
	case "get":
		given = append(given, top.Locals[a])
	case "set":
		top.Locals[a] = taken[0]
	case "pop":
	case "jump":
		top.At = a
	case "unless", "test":
		if taken[0].Kind != api.Bool {
			trap = api.TrapType
		} else if name == "test" {
			given = taken
		} else if taken[0].N == 0 {
			top.At = a
		}
	case "call":
		if len(x.frames) == 32 {
			trap = api.TrapDepth
		} else {
			x.enter(a, taken)
		}
	case "ret":
		x.frames = x.frames[:len(x.frames)-1]
		if len(x.frames) == 0 {
			return api.Outcome{Kind: api.Returned, Value: taken[0], Left: x.left}
		}
		top, given = &x.frames[len(x.frames)-1], taken
	case "load", "save", "drop", "after":
		var v api.Value
		v, trap = x.visit(name, taken)
		given = append(given, v)
	default:
		extra := api.Value{}
		if name == "record" || name == "field" {
			extra = x.m.Consts[a]
		}
		var v api.Value
		v, trap = prim.Do(op, extra, taken)
		given = append(given, v)
	}
	if trap != 0 {
		return api.Outcome{Kind: api.Trapped, Trap: trap, Left: x.left}
	}
	top.Stack = append(top.Stack, given...)
	return api.Outcome{}
}

// visit is what the store's instructions do.
func (x *model) visit(name string, taken []api.Value) (api.Value, int) {
	key := taken[0].S
	least := 1
	if name == "after" {
		least = 0
	}
	if taken[0].Kind != api.Bytes {
		return unit, api.TrapType
	}
	if len(key) < least || len(key) > 32 {
		return unit, api.TrapStore
	}
	old, there := x.store[key]
	switch name {
	case "load":
		return old, 0
	case "save":
		if !x.room(key, taken[1]) {
			return unit, api.TrapStore
		}
		x.store[key] = taken[1]
		return unit, 0
	case "drop":
		delete(x.store, key)
		return truth(there), 0
	}
	for _, k := range slices.Sorted(maps.Keys(x.store)) {
		if k > key {
			return text(k), 0
		}
	}
	return unit, 0
}

// entriesOf are a map's, as a store tells them.
func entriesOf(m map[string]api.Value) []api.Entry {
	var out []api.Entry
	for _, k := range slices.Sorted(maps.Keys(m)) {
		out = append(out, api.Entry{Key: k, Value: m[k]})
	}
	return out
}

func sameEntries(a, b []api.Entry) bool {
	return slices.EqualFunc(a, b, func(x, y api.Entry) bool { return x.Key == y.Key && same(x.Value, y.Value) })
}

func sameOutcome(a, b api.Outcome) bool {
	return a.Kind == b.Kind && a.Trap == b.Trap && a.Left == b.Left && same(a.Value, b.Value)
}

// pool are the constants of all random modules.
func pool() []api.Value {
	out := []api.Value{unit, truth(false), truth(true), text(""), text("a"), text("b"), text("k\x00\xff"), longText(32), longText(33),
		longText(400), list(), list(number(1), text("a")), list(list(), truth(true)), texts("a", "b"), texts("b", "a", "c"), texts("a", "a"), texts(),
		record(""), record("a", number(1)), record("a b", text("x"), list(number(2))), units(300), deep(8), longText(1800)}
	for _, n := range []int64{0, 1, 2, 3, -1, 7, 1 << 40, -1 << 63} {
		out = append(out, number(n))
	}
	return out
}

// wants are the kinds that an operation likes to take: a letter each, . for any.
var wants = strings.Fields(`const= get= set=. pop=. jump= unless=t test=t call= ret=. add=ii sub=ii mul=ii div=ii rem=ii neg=i not=t
eq=.. ne=.. lt=ii le=bb gt=ii ge=bb array= record= index=ai field=r len=b push=a. change=ai. slice=bii with=rb. without=rb keys=r
has=rb kind=. digest=. abort=. load=b save=b. drop=b after=b`)

// writer makes a random function.
type writer struct {
	dice    *rand.Rand
	m       api.Module
	f       api.Func
	list    []api.Ins
	heights []int // ahead of each
	height  int
	known   []int // heights that some jump has asked for
}

// put lays an instruction down, if the stack allows it.
func (w *writer) put(op, a int) bool {
	takes, gives := table[op].takes, 1
	switch op {
	case api.OpCall:
		takes = w.m.Funcs[a].Params
	case api.OpArray:
		takes = a
	case api.OpRecord:
		takes = len(w.m.Consts[a].L)
	case api.OpSet, api.OpPop, api.OpJump, api.OpUnless, api.OpRet:
		gives = 0
	}
	if takes > w.height || w.height-takes+gives > w.f.Stack {
		return false
	}
	w.list, w.heights = append(w.list, api.Ins{Op: op, A: a}), append(w.heights, w.height)
	w.height += gives - takes
	if op == api.OpJump || op == api.OpUnless {
		w.known = append(w.known, w.height)
	}
	if (op == api.OpJump || op == api.OpRet) && len(w.known) > 0 { // what stands behind is met by a jump, or not at all
		w.height = w.known[w.dice.Intn(len(w.known))]
	}
	return true
}

// constant is the number of one that is of a kind; it is of any kind at times.
func (w *writer) constant(letter byte) int {
	for {
		c := w.dice.Intn(len(w.m.Consts))
		if letter == '.' || "utibar"[w.m.Consts[c].Kind] == letter || w.dice.Intn(400) == 0 {
			return c
		}
	}
}

// operand is one that verify takes, but for places.
func (w *writer) operand(op int) int {
	switch op {
	case api.OpConst:
		return w.constant('.')
	case api.OpGet, api.OpSet:
		return w.dice.Intn(w.f.Locals)
	case api.OpCall:
		return w.dice.Intn(len(w.m.Funcs))
	case api.OpArray:
		return w.dice.Intn(4)
	case api.OpField:
		return slices.IndexFunc(w.m.Consts, func(v api.Value) bool { return v.Kind == api.Bytes && v.S == "a" })
	case api.OpRecord:
		for {
			c := w.constant('a')
			if l := w.m.Consts[c]; l.Kind == api.Array && !slices.ContainsFunc(l.L, func(v api.Value) bool { return v.Kind != api.Bytes }) {
				return c
			}
		}
	}
	return 0
}

// write goes on for so many operations, each with operands of its own ahead most of the time.
func (w *writer) write(count int) {
	for range count {
		op := 1 + w.dice.Intn(41)
		if op == api.OpAbort && w.dice.Intn(10) > 0 || op == api.OpRet && w.dice.Intn(3) > 0 {
			continue
		}
		if w.dice.Intn(8) > 0 {
			_, letters, _ := strings.Cut(wants[op-1], "=")
			for i := range len(letters) {
				w.put(api.OpConst, w.constant(letters[i]))
			}
		}
		w.put(op, w.operand(op))
		if w.height > 3 && w.dice.Intn(2) == 0 {
			w.put(api.OpSet, w.operand(api.OpSet))
		}
	}
	if w.height == 0 {
		w.put(api.OpConst, w.constant('.'))
	}
	w.put(api.OpRet, 0)
}

// code lays the instructions out, each jump at a place of its height; false: there is none.
func (w *writer) code() (string, bool) {
	var places []int
	at := 0
	for _, i := range w.list {
		places = append(places, at)
		at += 1 + table[i.Op].size
	}
	var out strings.Builder
	for k, i := range w.list {
		out.WriteByte(byte(i.Op))
		a := i.A
		if table[i.Op].size == 2 {
			h := w.heights[k] - table[i.Op].takes
			var fit []int
			for j, there := range w.heights {
				if there == h && (j > k || w.dice.Intn(4) == 0) {
					fit = append(fit, places[j])
				}
			}
			if len(fit) == 0 {
				return "", false
			}
			a = fit[w.dice.Intn(len(fit))]
			out.WriteByte(byte(a >> 8))
		}
		if table[i.Op].size > 0 {
			out.WriteByte(byte(a))
		}
	}
	return out.String(), out.Len() <= 4000
}

// randomModule is one that verify takes.
func randomModule(dice *rand.Rand) api.Module {
	for {
		m := api.Module{Consts: pool()}
		for f := range 1 + dice.Intn(4) {
			params := dice.Intn(3)
			m.Funcs = append(m.Funcs, api.Func{Params: params, Locals: params + 1 + dice.Intn(3), Stack: 4 + dice.Intn(6)})
			m.Exports = append(m.Exports, api.Export{Name: string(rune('a' + f)), Func: f})
		}
		whole := true
		for f := range m.Funcs {
			w := &writer{dice: dice, m: m, f: m.Funcs[f]}
			w.write(1 + dice.Intn(25))
			code, laid := w.code()
			m.Funcs[f].Code, whole = code, whole && laid
		}
		if whole && verify.Module(m).Code == api.OK {
			return m
		}
	}
}

// randomArgs are as many as are asked for, most of the time.
func randomArgs(dice *rand.Rand, count int) []api.Value {
	if dice.Intn(20) == 0 {
		count = dice.Intn(4)
	}
	var out []api.Value
	all := pool()
	for range count {
		out = append(out, all[dice.Intn(len(all))])
	}
	return out
}

// randomStore is empty, small, or nearly full by count or by weight.
func randomStore(dice *rand.Rand) map[string]api.Value {
	out := map[string]api.Value{}
	switch dice.Intn(4) {
	case 1:
		out["a"], out["b"] = number(5), list(text("x"))
	case 2:
		for i := range 127 {
			out[fmt.Sprintf("c%03d", i)] = unit
		}
	case 3:
		for i := range 16 {
			out[fmt.Sprintf("d%02d", i)] = longText(2040)
		}
	}
	return out
}
