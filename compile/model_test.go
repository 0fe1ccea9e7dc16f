package compile_test

import (
	"fmt"
	"slices"
	"strings"

	"scruple/api"
	"scruple/value"
)

// The model reads a tree as the chapter says, in another way: it first lays all instructions of a function, of whatever
// number, with labels; then looks for the first limit; and counts the operands by the tree, not by the instructions.

// names are DOC.md's, by rising numbers.
var names = strings.Fields(`const get set pop jump unless test call ret add sub mul div rem neg not eq ne lt le gt ge array record index field
len push change slice with without keys has kind digest abort load save drop after`)

// signs are the operations of Binary's signs.
var signs = map[string]string{"+": "add", "-": "sub", "*": "mul", "/": "div", "%": "rem", "==": "eq", "!=": "ne", "<": "lt", "<=": "le",
	">": "gt", ">=": "ge"}

// builtins are DOC.md's.
var builtins = strings.Fields("len push change slice with without keys has kind digest abort load save drop after")

// laid is an instruction, or what else is met in their order.
type laid struct {
	op string // or "label", or "many": a List or a Fields of too many elements
	at int
	n  int       // the operand; of jump, unless and a label the label's number
	v  api.Value // the constant
}

func (i laid) size() int {
	switch i.op {
	case "label", "many":
		return 0
	case "jump", "unless":
		return 3
	case "const", "get", "set", "call", "array", "record", "field":
		return 2
	}
	return 1
}

func (i laid) asks() bool { return i.op == "const" || i.op == "record" || i.op == "field" }

// seen is a variable that is visible, with those around it.
type seen struct {
	name   string
	number int
	outer  *seen
}

func (s *seen) find(name string) int {
	for ; s != nil; s = s.outer {
		if s.name == name {
			return s.number
		}
	}
	panic("no variable " + name)
}

// reading is one of a function.
type reading struct {
	code   []laid
	lets   []int // the places of the parameters and Lets
	labels int
	loops  [][2]int // the labels of the Whiles around: the beginning, the end
	high   int      // the most operands
	fns    []string
}

func (r *reading) put(n api.Node, op string, operand int) {
	r.code = append(r.code, laid{op: op, at: n.At, n: operand})
}

func (r *reading) constant(n api.Node, op string, v api.Value) {
	r.code = append(r.code, laid{op: op, at: n.At, v: v})
}

func (r *reading) label() int {
	r.labels++
	return r.labels - 1
}

func (r *reading) variable(n api.Node, s *seen) *seen {
	r.lets = append(r.lets, n.At)
	return &seen{n.Text, len(r.lets) - 1, s}
}

func (r *reading) function(n api.Node) {
	var s *seen
	for _, kid := range n.Kids {
		if kid.Kind == api.Param {
			s = r.variable(kid, s)
		} else {
			r.block(kid, s)
		}
	}
	r.constant(n, "const", api.Value{})
	r.put(n, "ret", 0)
	r.high = max(r.high, 1)
}

func (r *reading) block(n api.Node, s *seen) {
	for _, kid := range n.Kids {
		s = r.statement(kid, s)
	}
}

func (r *reading) statement(n api.Node, s *seen) *seen {
	if n.Kind != api.If && n.Kind != api.While {
		for _, kid := range n.Kids {
			r.whole(kid, s)
		}
	}
	switch n.Kind {
	case api.Let:
		s = r.variable(n, s)
		if len(n.Kids) > 0 {
			r.put(n, "set", s.number)
		}
	case api.Set:
		r.put(n, "set", s.find(n.Text))
	case api.Do:
		r.put(n, "pop", 0)
	case api.Return:
		if len(n.Kids) == 0 {
			r.constant(n, "const", api.Value{})
		}
		r.put(n, "ret", 0)
	case api.Break:
		r.put(n, "jump", r.loops[len(r.loops)-1][1])
	case api.Continue:
		r.put(n, "jump", r.loops[len(r.loops)-1][0])
	case api.If:
		r.choice(n, s)
	case api.While:
		r.loop(n, s)
	default:
		panic(n.Kind)
	}
	return s
}

func (r *reading) choice(n api.Node, s *seen) {
	other, end := r.label(), r.label()
	r.whole(n.Kids[0], s)
	r.put(n, "unless", other)
	r.block(n.Kids[1], s)
	if len(n.Kids) == 3 {
		r.put(n, "jump", end)
	}
	r.put(n, "label", other)
	if len(n.Kids) == 3 && n.Kids[2].Kind == api.If {
		r.choice(n.Kids[2], s)
	} else if len(n.Kids) == 3 {
		r.block(n.Kids[2], s)
	}
	r.put(n, "label", end)
}

func (r *reading) loop(n api.Node, s *seen) {
	begin, end := r.label(), r.label()
	r.put(n, "label", begin)
	r.whole(n.Kids[0], s)
	r.put(n, "unless", end)
	r.loops = append(r.loops, [2]int{begin, end})
	r.block(n.Kids[1], s)
	r.loops = r.loops[:len(r.loops)-1]
	r.put(n, "jump", begin)
	r.put(n, "label", end)
}

// whole is an expression that a statement has.
func (r *reading) whole(n api.Node, s *seen) {
	r.expr(n, s)
	r.high = max(r.high, needs(n))
}

// needs is how many operands there are at most as an expression is worked out.
func needs(n api.Node) int {
	most := 1
	for i, kid := range n.Kids {
		if n.Kind == api.Binary && (n.Text == "&&" || n.Text == "||") {
			i = 0 // the first one is gone when the second one begins
		}
		most = max(most, i+needs(kid))
	}
	return most
}

func (r *reading) expr(n api.Node, s *seen) {
	if (n.Kind == api.List || n.Kind == api.Fields) && len(n.Kids) > 40 {
		r.put(n, "many", 0)
	}
	if n.Kind == api.Binary && (n.Text == "&&" || n.Text == "||") {
		r.logic(n, s)
		return
	}
	for _, kid := range n.Kids {
		r.expr(kid, s)
	}
	switch n.Kind {
	case api.Pair:
	case api.Lit:
		r.constant(n, "const", n.Val)
	case api.Name:
		r.put(n, "get", s.find(n.Text))
	case api.Unary:
		r.put(n, map[string]string{"-": "neg", "!": "not"}[n.Text], 0)
	case api.Binary:
		r.put(n, signs[n.Text], 0)
	case api.At:
		r.put(n, "index", 0)
	case api.Dot:
		r.constant(n, "field", text(n.Text))
	case api.List:
		r.put(n, "array", len(n.Kids))
	case api.Fields:
		keys := api.Value{Kind: api.Array}
		for _, pair := range n.Kids {
			keys.L = append(keys.L, text(pair.Text))
		}
		r.constant(n, "record", keys)
	case api.Call:
		if slices.Contains(builtins, n.Text) {
			r.put(n, n.Text, 0)
		} else {
			r.put(n, "call", slices.Index(r.fns, n.Text))
		}
	default:
		panic(n.Kind)
	}
}

func (r *reading) logic(n api.Node, s *seen) {
	other, end := r.label(), r.label()
	parts := []func(){
		func() { r.expr(n.Kids[1], s); r.put(n, "test", 0) },
		func() { r.constant(n, "const", truth(n.Text == "||")) },
	}
	if n.Text == "||" {
		slices.Reverse(parts)
	}
	r.expr(n.Kids[0], s)
	r.put(n, "unless", other)
	parts[0]()
	r.put(n, "jump", end)
	r.put(n, "label", other)
	parts[1]()
	r.put(n, "label", end)
}

// finish looks for the first limit that the function passes; 0: none. The constants are those of the module so far.
func (r *reading) finish(fn api.Node, consts *[]api.Value) (int, api.Errno) {
	if len(r.lets) > 32 {
		return r.lets[32], api.ErrCompileLocals
	}
	size := 0
	for i := range r.code {
		one := &r.code[i]
		if one.op == "many" {
			return one.at, api.ErrCompileStack
		}
		if one.asks() {
			one.n = slices.IndexFunc(*consts, func(v api.Value) bool { return same(v, one.v) })
			if one.n < 0 && len(*consts) == 100 {
				return one.at, api.ErrCompileConsts
			}
			if one.n < 0 {
				one.n = len(*consts)
				*consts = append(*consts, one.v)
			}
		}
		if size += one.size(); size > 4000 {
			return one.at, api.ErrCompileCode
		}
	}
	if r.high > 40 {
		return fn.At, api.ErrCompileStack
	}
	return 0, api.OK
}

// bytes are the code's.
func (r *reading) bytes() string {
	places, size := map[int]int{}, 0
	for _, i := range r.code {
		if i.op == "label" {
			places[i.n] = size
		}
		size += i.size()
	}
	out := ""
	for _, i := range r.code {
		if i.op == "label" {
			continue
		}
		number := slices.Index(names, i.op) + 1
		switch i.size() {
		case 3:
			to := places[i.n]
			out += string([]byte{byte(number), byte(to >> 8), byte(to)})
		case 2:
			out += string([]byte{byte(number), byte(i.n)})
		default:
			out += string([]byte{byte(number)})
		}
	}
	return out
}

// modelled is the module of a tree that check takes, or the place and the error. It does not know how long a module may
// be.
func modelled(p api.Node) (api.Module, int, api.Errno) {
	if len(p.Kids) > 24 {
		return api.Module{}, p.Kids[24].At, api.ErrCompileFuncs
	}
	var m api.Module
	var fns []string
	for i, fn := range p.Kids {
		fns = append(fns, fn.Text)
		if fn.Flag {
			m.Exports = append(m.Exports, api.Export{Name: fn.Text, Func: i})
		}
	}
	slices.SortFunc(m.Exports, func(a, b api.Export) int { return strings.Compare(a.Name, b.Name) })
	for _, fn := range p.Kids {
		r := &reading{fns: fns}
		r.function(fn)
		if at, e := r.finish(fn, &m.Consts); e != api.OK {
			return api.Module{}, at, e
		}
		m.Funcs = append(m.Funcs, api.Func{Params: len(fn.Kids) - 1, Locals: len(r.lets), Stack: r.high, Code: r.bytes()})
	}
	return m, 0, api.OK
}

// same: element by element, by what the document says of two values.
func same(a, b api.Value) bool {
	return a.Kind == b.Kind && a.N == b.N && a.S == b.S && slices.Equal(a.K, b.K) && slices.EqualFunc(a.L, b.L, same)
}

// whole is all of a module, as a text.
func whole(m api.Module) string {
	var l []string
	for _, v := range m.Consts {
		l = append(l, value.Print(v))
	}
	for _, f := range m.Funcs {
		l = append(l, fmt.Sprintf("%d %d %d %x", f.Params, f.Locals, f.Stack, f.Code))
	}
	return strings.Join(append(l, fmt.Sprint(m.Exports)), "\n")
}
