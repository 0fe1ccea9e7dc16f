package compile

import (
	"scruple/api"
	"scruple/code"
	"scruple/wire"
)

// shared is what the functions of a module have in common.
type shared struct {
	functions map[string]int // the number of each, by its name
	constants map[string]int // the number of each, by its bytes: of what is the same value these are the same
	list      []api.Value    // the constants, by their numbers
}

// constant is the number of a value that is asked for at a node.
func (s *shared) constant(n api.Node, v api.Value) int {
	b, _ := wire.Encode(v) // there is no error: Lits are right, and keys too few and short to be too heavy
	number, there := s.constants[string(b)]
	if there {
		return number
	}
	if len(s.list) == api.MaxConsts {
		giveUp(n, api.ErrCompileConsts)
	}
	number = len(s.list)
	s.constants[string(b)] = number
	s.list = append(s.list, v)
	return number
}

// layer lays the instructions of one function, one behind the other.
type layer struct {
	*shared
	locals map[string]int // the number of the variable that was named so last: of one name only one is visible at a time
	named  int            // how many variables have been met: all of them have numbers of their own
	code   []api.Ins
	size   int // bytes that the code has
	height int // operands that there are behind what was laid
	most   int // that there ever were
	around *loop
}

// function makes a Fn's.
func (s *shared) function(fn api.Node) api.Func {
	last := len(fn.Kids) - 1 // the Block; all ahead of it are Params
	f := api.Func{Params: last, Locals: countLocals(fn)}
	l := &layer{shared: s, locals: map[string]int{}}
	for _, param := range fn.Kids[:last] {
		l.name(param)
	}
	l.statement(fn.Kids[last])
	l.unit(fn)
	l.lay(fn, api.OpRet, 0)
	if l.most > api.MaxStack {
		giveUp(fn, api.ErrCompileStack)
	}
	f.Stack = l.most
	b, _ := code.Bytes(l.code) // there is no error: no operand is beyond a limit that was not passed
	f.Code = string(b)
	return f
}

// countLocals goes through statements alone, since no expression has a Let within. It gives up ahead of all limits that
// are passed by instructions.
func countLocals(fn api.Node) int {
	count := 0
	var in func(n api.Node)
	in = func(n api.Node) {
		switch n.Kind {
		case api.Param, api.Let:
			count++
			if count > api.MaxLocals {
				giveUp(n, api.ErrCompileLocals)
			}
		case api.Fn, api.Block, api.If, api.While:
			for _, kid := range n.Kids {
				in(kid)
			}
		}
	}
	in(fn)
	return count
}

// name numbers the variable of a Param or a Let.
func (l *layer) name(n api.Node) int {
	number := l.named
	l.locals[n.Text] = number
	l.named++
	return number
}

// lay lays an instruction at a node. Its number among all of the function is told, so that a jump can be landed.
func (l *layer) lay(n api.Node, op, operand int) int {
	i := api.Ins{Op: op, A: operand}
	b, _ := code.Put(nil, i)
	if l.size+len(b) > api.MaxCode {
		giveUp(n, api.ErrCompileCode)
	}
	l.size += len(b)
	l.code = append(l.code, i)
	info, _ := code.Info(op)
	l.height += info.Gives - takes(n, info, op)
	l.most = max(l.most, l.height)
	return len(l.code) - 1
}

// takes is how many operands an instruction takes that is laid at a node. Of call, array and record these are what the
// node's Kids have come to.
func takes(n api.Node, info api.Info, op int) int {
	switch op {
	case api.OpCall, api.OpArray, api.OpRecord:
		return len(n.Kids)
	}
	return info.Takes
}

// land makes jumps lead to where the next instruction will be.
func (l *layer) land(jumps ...int) {
	for _, i := range jumps {
		l.code[i].A = l.size
	}
}

// value lays const of a value.
func (l *layer) value(n api.Node, v api.Value) {
	l.lay(n, api.OpConst, l.constant(n, v))
}

func (l *layer) unit(n api.Node) { l.value(n, api.Value{}) }
