package eval_test

import (
	"fmt"
	"maps"
	"slices"
	"strings"

	"scruple/api"
	"scruple/asm"
	"scruple/prim"
	"scruple/value"
)

// The model lays a tree out as DOC.md's instructions, and runs these as DOC.md's machine does, on a map as its store. It
// knows no limits but 32 frames. What it lays is an asm text, too, so that vm can be asked.

// document is what DOC.md's table says of each operation, by rising numbers: its name, what it takes (-1: its operand
// says it), its base and its rate.
const document = `const 0 1 0, get 0 1 0, set 1 1 0, pop 1 1 0, jump 0 1 0, unless 1 2 0, test 1 1 0, call -1 8 0, ret 1 1 0,
add 2 2 1, sub 2 2 0, mul 2 3 0, div 2 3 0, rem 2 3 0, neg 1 1 0, not 1 1 0, eq 2 2 1, ne 2 2 1, lt 2 2 1, le 2 2 1, gt 2 2 1,
ge 2 2 1, array -1 2 1, record -1 2 1, index 2 2 0, field 1 2 0, len 1 1 0, push 2 2 1, change 3 2 1, slice 3 2 1, with 3 2 1,
without 2 2 1, keys 1 2 1, has 2 2 0, kind 1 1 0, digest 1 20 1, abort 1 1 0, load 1 10 1, save 2 20 2, drop 1 10 1, after 1 10 1`

// row is one of the document's.
type row struct {
	number, takes int
	base, rate    int64
}

func rows() map[string]row {
	out := map[string]row{}
	for s := range strings.SplitSeq(document, ",") {
		r, name := row{number: len(out) + 1}, ""
		if _, err := fmt.Sscan(s, &name, &r.takes, &r.base, &r.rate); err != nil {
			panic(err)
		}
		out[name] = r
	}
	if len(out) != 41 {
		panic(len(out))
	}
	return out
}

var table = rows()

// signs are the operations of Binary's signs.
var signs = map[string]string{"+": "add", "-": "sub", "*": "mul", "/": "div", "%": "rem", "==": "eq", "!=": "ne", "<": "lt", "<=": "le",
	">": "gt", ">=": "ge"}

// builtins are DOC.md's.
var builtins = strings.Fields("len push change slice with without keys has kind digest abort load save drop after")

// laid is an instruction.
type laid struct {
	op string
	n  int       // get, set: the local; jump, unless: the number of another instruction; array, record: how many it takes
	v  api.Value // const, record, field: the constant
	fn string    // call
}

// flat is a function that was laid out.
type flat struct {
	params, locals int
	code           []laid
}

// seen is a variable that is visible, with those around it.
type seen struct {
	name   string
	number int
	outer  *seen
}

func (s *seen) find(name string) int {
	for ; s != nil; s = s.outer {
		if s.name == name {
			return s.number
		}
	}
	panic("no variable " + name)
}

// layer lays one function out.
type layer struct {
	flat
	begins []int   // of the Whiles around
	exits  [][]int // the jumps that lead behind them
}

// layAll lays a tree out that check takes.
func layAll(p api.Node) map[string]flat {
	out := map[string]flat{}
	for _, fn := range p.Kids {
		l := &layer{}
		var s *seen
		for _, kid := range fn.Kids {
			if kid.Kind == api.Param {
				s = &seen{kid.Text, l.locals, s}
				l.locals++
				l.params++
				continue
			}
			l.block(kid, s)
		}
		l.put(laid{op: "const"})
		l.put(laid{op: "ret"})
		out[fn.Text] = l.flat
	}
	return out
}

func (l *layer) put(i laid) int {
	l.code = append(l.code, i)
	return len(l.code) - 1
}

// land lets jumps lead to what is laid next.
func (l *layer) land(jumps ...int) {
	for _, i := range jumps {
		l.code[i].n = len(l.code)
	}
}

func (l *layer) block(n api.Node, s *seen) {
	for _, kid := range n.Kids {
		s = l.statement(kid, s)
	}
}

// statement lays one, and tells what is visible behind it.
func (l *layer) statement(n api.Node, s *seen) *seen {
	switch n.Kind {
	case api.Let:
		l.exprs(n.Kids, s)
		s = &seen{n.Text, l.locals, s}
		l.locals++
		if len(n.Kids) > 0 {
			l.put(laid{op: "set", n: s.number})
		}
	case api.Set:
		l.exprs(n.Kids, s)
		l.put(laid{op: "set", n: s.find(n.Text)})
	case api.Do:
		l.exprs(n.Kids, s)
		l.put(laid{op: "pop"})
	case api.Return:
		if len(n.Kids) == 0 {
			l.put(laid{op: "const"})
		}
		l.exprs(n.Kids, s)
		l.put(laid{op: "ret"})
	case api.If:
		l.choice(n, s)
	case api.While:
		l.loop(n, s)
	case api.Break:
		last := len(l.exits) - 1
		l.exits[last] = append(l.exits[last], l.put(laid{op: "jump"}))
	case api.Continue:
		l.put(laid{op: "jump", n: l.begins[len(l.begins)-1]})
	default:
		panic(n.Kind)
	}
	return s
}

func (l *layer) choice(n api.Node, s *seen) {
	l.expr(n.Kids[0], s)
	first := l.put(laid{op: "unless"})
	l.block(n.Kids[1], s)
	if len(n.Kids) == 2 {
		l.land(first)
		return
	}
	second := l.put(laid{op: "jump"})
	l.land(first)
	if n.Kids[2].Kind == api.If {
		l.choice(n.Kids[2], s)
	} else {
		l.block(n.Kids[2], s)
	}
	l.land(second)
}

func (l *layer) loop(n api.Node, s *seen) {
	begin := len(l.code)
	l.expr(n.Kids[0], s)
	l.begins, l.exits = append(l.begins, begin), append(l.exits, []int{l.put(laid{op: "unless"})})
	l.block(n.Kids[1], s)
	l.put(laid{op: "jump", n: begin})
	last := len(l.begins) - 1
	l.land(l.exits[last]...)
	l.begins, l.exits = l.begins[:last], l.exits[:last]
}

func (l *layer) exprs(nodes []api.Node, s *seen) {
	for _, n := range nodes {
		l.expr(n, s)
	}
}

func (l *layer) expr(n api.Node, s *seen) {
	if n.Kind == api.Binary && (n.Text == "&&" || n.Text == "||") {
		l.logic(n, s)
		return
	}
	if n.Kind == api.Fields {
		keys := list()
		for _, pair := range n.Kids {
			l.expr(pair.Kids[0], s)
			keys.L = append(keys.L, text(pair.Text))
		}
		l.put(laid{op: "record", n: len(n.Kids), v: keys})
		return
	}
	l.exprs(n.Kids, s)
	switch n.Kind {
	case api.Lit:
		l.put(laid{op: "const", v: n.Val})
	case api.Name:
		l.put(laid{op: "get", n: s.find(n.Text)})
	case api.Call:
		if slices.Contains(builtins, n.Text) {
			l.put(laid{op: n.Text})
		} else {
			l.put(laid{op: "call", fn: n.Text})
		}
	case api.Unary:
		l.put(laid{op: map[string]string{"-": "neg", "!": "not"}[n.Text]})
	case api.Binary:
		l.put(laid{op: signs[n.Text]})
	case api.List:
		l.put(laid{op: "array", n: len(n.Kids)})
	case api.At:
		l.put(laid{op: "index"})
	case api.Dot:
		l.put(laid{op: "field", v: text(n.Text)})
	default:
		panic(n.Kind)
	}
}

func (l *layer) logic(n api.Node, s *seen) {
	l.expr(n.Kids[0], s)
	first := l.put(laid{op: "unless"})
	if n.Text == "&&" {
		l.expr(n.Kids[1], s)
		l.put(laid{op: "test"})
		second := l.put(laid{op: "jump"})
		l.land(first)
		l.put(laid{op: "const", v: truth(false)})
		l.land(second)
		return
	}
	l.put(laid{op: "const", v: truth(true)})
	second := l.put(laid{op: "jump"})
	l.land(first)
	l.expr(n.Kids[1], s)
	l.put(laid{op: "test"})
	l.land(second)
}

// lines are an asm text of what was laid; false: it has more constants than asm's operands name.
func lines(p api.Node, all map[string]flat) (string, bool) {
	var consts, body []string
	constant := func(v api.Value) int {
		s := value.Print(v)
		if !slices.Contains(consts, s) {
			consts = append(consts, s)
		}
		return slices.Index(consts, s)
	}
	var exports []string
	for f, fn := range p.Kids {
		one := all[fn.Text]
		body = append(body, fmt.Sprintf(".func %d %d 40", one.params, one.locals))
		for k, i := range one.code {
			body = append(body, fmt.Sprint(".at l", k))
			switch i.op {
			case "const", "record", "field":
				body = append(body, fmt.Sprint(i.op, " ", constant(i.v)))
			case "get", "set", "array":
				body = append(body, fmt.Sprint(i.op, " ", i.n))
			case "jump", "unless":
				body = append(body, fmt.Sprint(i.op, " l", i.n))
			case "call":
				called := slices.IndexFunc(p.Kids, func(n api.Node) bool { return n.Text == i.fn })
				body = append(body, fmt.Sprint("call ", called))
			default:
				body = append(body, i.op)
			}
		}
		if fn.Flag {
			exports = append(exports, fmt.Sprint(".export ", fn.Text, " ", f))
		}
	}
	slices.Sort(exports)
	for i, s := range consts {
		consts[i] = ".const " + s
	}
	return strings.Join(slices.Concat(consts, body, exports), "\n"), len(consts) <= api.MaxConsts
}

// module is the tree's, if it fits into asm's text.
func module(p api.Node) (api.Module, bool) {
	s, fits := lines(p, layAll(p))
	if !fits {
		return api.Module{}, false
	}
	m, _, e := asm.Parse(s)
	return m, e == api.OK
}

// weigh is what a right value weighs.
func weigh(v api.Value) int64 {
	w := int64(1 + len(v.S))
	for _, key := range v.K {
		w += int64(1 + len(key))
	}
	for _, x := range v.L {
		w += weigh(x)
	}
	return w
}

// same: element by element, by what the document says of two values.
func same(a, b api.Value) bool {
	return a.Kind == b.Kind && a.N == b.N && a.S == b.S && slices.Equal(a.K, b.K) && slices.EqualFunc(a.L, b.L, same)
}

// level is a call that is under way.
type level struct {
	flat
	at            int
	locals, stack []api.Value
}

// model is a run.
type model struct {
	functions map[string]flat
	store     map[string]api.Value
	left      int64
	frames    []*level
	done      map[string]int // how often each operation was done
	depth     int            // how many frames there were at most
	high      int            // how many operands there were at most
}

func newModel(p api.Node, first map[string]api.Value) *model {
	m := &model{functions: layAll(p), store: map[string]api.Value{}, done: map[string]int{}}
	maps.Copy(m.store, first)
	return m
}

func (m *model) enter(fn string, args []api.Value) {
	f := m.functions[fn]
	h := &level{flat: f, locals: make([]api.Value, f.locals)}
	copy(h.locals, args)
	m.frames = append(m.frames, h)
	m.depth = max(m.depth, len(m.frames))
}

// run comes to the end of a run that is no error.
func (m *model) run(entry string, args []api.Value, limit int64) api.Outcome {
	if len(args) != m.functions[entry].params {
		return api.Outcome{Kind: api.Trapped, Trap: api.TrapArity, Left: limit}
	}
	m.left = limit
	m.enter(entry, args)
	for {
		if o := m.step(); o.Kind != 0 {
			return o
		}
	}
}

// step does one; of Kind 0: the run goes on.
func (m *model) step() api.Outcome {
	top := m.frames[len(m.frames)-1]
	i := top.code[top.at]
	r := table[i.op]
	n := r.takes
	switch i.op {
	case "call":
		n = m.functions[i.fn].params
	case "array", "record":
		n = i.n
	}
	rest := len(top.stack) - n
	taken := slices.Clone(top.stack[rest:])
	cost := r.base
	for _, v := range taken {
		cost += r.rate * weigh(v)
	}
	if i.op == "load" && taken[0].Kind == api.Bytes {
		if v, there := m.store[taken[0].S]; there {
			cost += r.rate * weigh(v)
		}
	}
	if cost > m.left {
		return api.Outcome{Kind: api.Spent}
	}
	m.left -= cost
	m.done[i.op]++
	top.stack = top.stack[:rest]
	top.at++
	return m.effect(top, i, taken)
}

// effect is what an instruction does with what it has taken.
func (m *model) effect(top *level, i laid, taken []api.Value) api.Outcome {
	trap := 0
	var given []api.Value
	switch i.op {
	case "const":
		given = append(given, i.v)
	case "get":
		given = append(given, top.locals[i.n])
	case "set":
		top.locals[i.n] = taken[0]
	case "pop":
	case "jump":
		top.at = i.n
	case "unless", "test":
		if taken[0].Kind != api.Bool {
			trap = api.TrapType
		} else if i.op == "test" {
			given = taken
		} else if taken[0].N == 0 {
			top.at = i.n
		}
	case "call":
		if len(m.frames) == 32 {
			trap = api.TrapDepth
		} else {
			m.enter(i.fn, taken)
		}
	case "ret":
		m.frames = m.frames[:len(m.frames)-1]
		if len(m.frames) == 0 {
			return api.Outcome{Kind: api.Returned, Value: taken[0], Left: m.left}
		}
		top, given = m.frames[len(m.frames)-1], taken
	default:
		var v api.Value
		v, trap = m.made(i, taken)
		given = append(given, v)
	}
	if trap != 0 {
		return api.Outcome{Kind: api.Trapped, Trap: trap, Left: m.left}
	}
	top.stack = append(top.stack, given...)
	m.high = max(m.high, len(top.stack))
	return api.Outcome{}
}

func (m *model) made(i laid, taken []api.Value) (api.Value, int) {
	if table[i.op].number < table["load"].number {
		extra := api.Value{}
		if i.op == "record" || i.op == "field" {
			extra = i.v
		}
		return prim.Do(table[i.op].number, extra, taken)
	}
	least := 1
	if i.op == "after" {
		least = 0
	}
	key := taken[0].S
	if taken[0].Kind != api.Bytes {
		return unit, api.TrapType
	}
	if len(key) < least || len(key) > 32 {
		return unit, api.TrapStore
	}
	old, there := m.store[key]
	switch i.op {
	case "load":
		return old, 0
	case "save":
		if !m.room(key, taken[1]) {
			return unit, api.TrapStore
		}
		m.store[key] = taken[1]
		return unit, 0
	case "drop":
		delete(m.store, key)
		return truth(there), 0
	}
	for _, k := range slices.Sorted(maps.Keys(m.store)) {
		if k > key {
			return text(k), 0
		}
	}
	return unit, 0
}

// room: does the store take v under the key?
func (m *model) room(key string, v api.Value) bool {
	with := maps.Clone(m.store)
	with[key] = v
	weight := 0
	for k, v := range with {
		weight += 1 + len(k) + int(weigh(v))
	}
	return len(with) <= 128 && weight <= 32768
}
