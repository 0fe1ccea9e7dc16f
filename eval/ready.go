package eval

import (
	"slices"

	"scruple/api"
	"scruple/check"
	"scruple/gas"
)

// function is a Fn.
type function struct {
	params []string
	body   block
}

// functionsOf makes a tree that check takes ready for running: all that hangs on it alone is looked up once.
func functionsOf(p api.Node) map[string]function {
	all := map[string]function{}
	for _, fn := range p.Kids {
		all[fn.Text] = functionOf(fn)
	}
	return all
}

func functionOf(fn api.Node) function {
	last := len(fn.Kids) - 1 // the Block; all ahead of it are Params
	f := function{body: append(blockOf(fn.Kids[last]), giveBack{literal{}})}
	for _, param := range fn.Kids[:last] {
		f.params = append(f.params, param.Text)
	}
	return f
}

// blockOf leaves out what is no instruction: in a loop it would be gone through again and again for nothing.
func blockOf(n api.Node) block {
	var b block
	for _, kid := range n.Kids {
		if kid.Kind != api.Let || len(kid.Kids) > 0 {
			b = append(b, statementOf(kid))
		}
	}
	return b
}

// statementOf is the way in which a statement is run.
func statementOf(n api.Node) statement {
	switch n.Kind {
	case api.Let, api.Set:
		return assign{n.Text, expressionOf(n.Kids[0])}
	case api.If:
		return choiceOf(n)
	case api.While:
		return loop{guarded{expressionOf(n.Kids[0]), blockOf(n.Kids[1]), true}}
	case api.Return:
		if len(n.Kids) == 0 {
			return giveBack{literal{}}
		}
		return giveBack{expressionOf(n.Kids[0])}
	case api.Break:
		return leave{outward}
	case api.Continue:
		return leave{again}
	}
	return discard{expressionOf(n.Kids[0])} // Do
}

func choiceOf(n api.Node) choice {
	var c choice
	for {
		other := n.Kids[2:]
		c.ways = append(c.ways, guarded{expressionOf(n.Kids[0]), blockOf(n.Kids[1]), len(other) > 0})
		if len(other) == 0 {
			return c
		}
		if other[0].Kind == api.Block {
			c.other = blockOf(other[0])
			return c
		}
		n = other[0]
	}
}

// expressionOf is the way in which an expression is run.
func expressionOf(n api.Node) expression {
	var links []link
	for n.Kind == api.Binary || n.Kind == api.At || n.Kind == api.Dot {
		links = append(links, linkOf(n))
		n = n.Kids[0]
	}
	if len(links) == 0 {
		return firstOf(n)
	}
	slices.Reverse(links)
	return chain{firstOf(n), links}
}

func expressionsOf(nodes []api.Node) []expression {
	var l []expression
	for _, n := range nodes {
		l = append(l, expressionOf(n))
	}
	return l
}

// linkOf is the way in which a Binary, an At or a Dot goes on with what its first Kid has come to.
func linkOf(n api.Node) link {
	switch {
	case n.Kind == api.At:
		return operationOf(api.OpIndex, api.Value{}, n.Kids[1:])
	case n.Kind == api.Dot:
		return operationOf(api.OpField, text(n.Text), nil)
	case n.Text == "&&":
		return shortcut{false, expressionOf(n.Kids[1])}
	case n.Text == "||":
		return shortcut{true, expressionOf(n.Kids[1])}
	}
	return operationOf(signed(n.Text), api.Value{}, n.Kids[1:])
}

// firstOf is the way in which an expression is run that is no chain.
func firstOf(n api.Node) expression {
	switch n.Kind {
	case api.Lit:
		return literal{n.Val}
	case api.Name:
		return variable{n.Text}
	case api.Unary:
		if n.Text == "-" {
			return operationOf(api.OpNeg, api.Value{}, n.Kids)
		}
		return operationOf(api.OpNot, api.Value{}, n.Kids)
	case api.List:
		return operationOf(api.OpArray, api.Value{}, n.Kids)
	case api.Fields:
		return fieldsOf(n)
	}
	if op, _, builtin := check.Builtin(n.Text); builtin { // a Call
		return operationOf(op, api.Value{}, n.Kids)
	}
	return call{n.Text, expressionsOf(n.Kids)}
}

// fieldsOf is the way of a Fields: its keys are the constant that record has besides.
func fieldsOf(n api.Node) expression {
	keys := api.Value{Kind: api.Array}
	var behind []api.Node
	for _, pair := range n.Kids {
		keys.L = append(keys.L, text(pair.Text))
		behind = append(behind, pair.Kids[0])
	}
	return operationOf(api.OpRecord, keys, behind)
}

func operationOf(op int, extra api.Value, kids []api.Node) operation {
	bare, _ := gas.Cost(op, 0)
	more, _ := gas.Cost(op, 1)
	return operation{op, extra, expressionsOf(kids), more > bare}
}

// signed is the operation of a Binary's sign.
func signed(sign string) int {
	switch sign {
	case "+":
		return api.OpAdd
	case "-":
		return api.OpSub
	case "*":
		return api.OpMul
	case "/":
		return api.OpDiv
	case "%":
		return api.OpRem
	case "==":
		return api.OpEq
	case "!=":
		return api.OpNe
	case "<":
		return api.OpLt
	case "<=":
		return api.OpLe
	case ">":
		return api.OpGt
	}
	return api.OpGe
}

func text(s string) api.Value { return api.Value{Kind: api.Bytes, S: s} }
