package compile

import (
	"scruple/api"
	"scruple/sense"
)

// loop is a While that is being laid.
type loop struct {
	begin int   // the place of its condition
	exits []int // the jumps that lead behind it
}

// statement lays a statement, or a Block.
func (l *layer) statement(n api.Node) {
	switch n.Kind {
	case api.Block:
		for _, kid := range n.Kids {
			l.statement(kid)
		}
	case api.Let:
		l.let(n)
	case api.Set:
		l.expression(n.Kids[0])
		l.lay(n, api.OpSet, l.locals[n.Text])
	case api.If:
		l.choice(n)
	case api.While:
		l.while(n)
	case api.Return:
		l.giveBack(n)
	case api.Break:
		l.around.exits = append(l.around.exits, l.lay(n, api.OpJump, 0))
	case api.Continue:
		l.lay(n, api.OpJump, l.around.begin)
	case api.Do:
		l.expression(n.Kids[0])
		l.lay(n, api.OpPop, 0)
	}
}

func (l *layer) let(n api.Node) {
	l.expressions(n.Kids)
	number := l.name(n)
	if len(n.Kids) > 0 {
		l.lay(n, api.OpSet, number)
	}
}

func (l *layer) giveBack(n api.Node) {
	l.expressions(n.Kids)
	if len(n.Kids) == 0 {
		l.unit(n)
	}
	l.lay(n, api.OpRet, 0)
}

// choice lays an If. The other one is a Block, or an If.
func (l *layer) choice(n api.Node) {
	l.expression(n.Kids[0])
	past := l.lay(n, api.OpUnless, 0)
	l.statement(n.Kids[1])
	if len(n.Kids) == 2 {
		l.land(past)
		return
	}
	end := l.lay(n, api.OpJump, 0)
	l.land(past)
	l.statement(n.Kids[2])
	l.land(end)
}

func (l *layer) while(n api.Node) {
	outer := l.around
	l.around = &loop{begin: l.size}
	l.expression(n.Kids[0])
	past := l.lay(n, api.OpUnless, 0)
	l.statement(n.Kids[1])
	l.lay(n, api.OpJump, l.around.begin)
	l.land(past)
	l.land(l.around.exits...)
	l.around = outer
}

func (l *layer) expressions(nodes []api.Node) {
	for _, n := range nodes {
		l.expression(n)
	}
}

// expression lays an expression, or what stands behind a Pair's key.
func (l *layer) expression(n api.Node) {
	switch n.Kind {
	case api.Lit:
		l.value(n, n.Val)
	case api.Name:
		l.lay(n, api.OpGet, l.locals[n.Text])
	case api.Pair:
		l.expression(n.Kids[0])
	default:
		l.made(n)
	}
}

// made lays an expression whose value is made of those of its Kids.
func (l *layer) made(n api.Node) {
	op, one := sense.Op(n)
	if !one && n.Kind == api.Binary {
		l.shortcut(n)
		return
	}
	if (op == api.OpArray || op == api.OpRecord) && len(n.Kids) > api.MaxStack {
		giveUp(n, api.ErrCompileStack)
	}
	l.expressions(n.Kids)
	if !one { // a Call of a Fn
		l.lay(n, api.OpCall, l.functions[n.Text])
		return
	}
	l.lay(n, op, l.operand(n, op))
}

// operand is that of an operation on values.
func (l *layer) operand(n api.Node, op int) int {
	switch op {
	case api.OpArray:
		return len(n.Kids)
	case api.OpRecord, api.OpField:
		return l.constant(n, sense.Constant(n))
	}
	return 0
}

// shortcut lays && or ||: behind its unless it asks for its second Kid where the first one is true, or false; on the
// other way it is settled.
func (l *layer) shortcut(n api.Node) {
	l.expression(n.Kids[0])
	past := l.lay(n, api.OpUnless, 0)
	height := l.height
	if n.Text == "&&" {
		l.tested(n)
	} else {
		l.value(n, api.Value{Kind: api.Bool, N: 1})
	}
	end := l.lay(n, api.OpJump, 0)
	l.land(past)
	l.height = height
	if n.Text == "&&" {
		l.value(n, api.Value{Kind: api.Bool})
	} else {
		l.tested(n)
	}
	l.land(end)
}

func (l *layer) tested(n api.Node) {
	l.expression(n.Kids[1])
	l.lay(n, api.OpTest, 0)
}
