package eval

import (
	"slices"

	"scruple/api"
	"scruple/gas"
	"scruple/sense"
)

// function is a Fn.
type function struct {
	params []string
	body   block
}

// functionsOf makes a tree that check takes ready for running: all that hangs on it alone is looked up once.
func functionsOf(p api.Node) map[string]function {
	all := map[string]function{}
	for _, fn := range p.Kids {
		all[fn.Text] = functionOf(fn)
	}
	return all
}

func functionOf(fn api.Node) function {
	last := len(fn.Kids) - 1 // the Block; all ahead of it are Params
	f := function{body: append(blockOf(fn.Kids[last]), giveBack{literal{}})}
	for _, param := range fn.Kids[:last] {
		f.params = append(f.params, param.Text)
	}
	return f
}

// blockOf leaves out what is no instruction: in a loop it would be gone through again and again for nothing.
func blockOf(n api.Node) block {
	var b block
	for _, kid := range n.Kids {
		if kid.Kind != api.Let || len(kid.Kids) > 0 {
			b = append(b, statementOf(kid))
		}
	}
	return b
}

// statementOf is the way in which a statement is run.
func statementOf(n api.Node) statement {
	switch n.Kind {
	case api.Let, api.Set:
		return assign{n.Text, expressionOf(n.Kids[0])}
	case api.If:
		return choiceOf(n)
	case api.While:
		return loop{guarded{expressionOf(n.Kids[0]), blockOf(n.Kids[1]), true}}
	case api.Return:
		if len(n.Kids) == 0 {
			return giveBack{literal{}}
		}
		return giveBack{expressionOf(n.Kids[0])}
	case api.Break:
		return leave{outward}
	case api.Continue:
		return leave{again}
	}
	return discard{expressionOf(n.Kids[0])} // Do
}

func choiceOf(n api.Node) choice {
	var c choice
	for {
		other := n.Kids[2:]
		c.ways = append(c.ways, guarded{expressionOf(n.Kids[0]), blockOf(n.Kids[1]), len(other) > 0})
		if len(other) == 0 {
			return c
		}
		if other[0].Kind == api.Block {
			c.other = blockOf(other[0])
			return c
		}
		n = other[0]
	}
}

// expressionOf is the way in which an expression is run.
func expressionOf(n api.Node) expression {
	var links []link
	for n.Kind == api.Binary || n.Kind == api.At || n.Kind == api.Dot {
		links = append(links, linkOf(n))
		n = n.Kids[0]
	}
	if len(links) == 0 {
		return firstOf(n)
	}
	slices.Reverse(links)
	return chain{firstOf(n), links}
}

func expressionsOf(nodes []api.Node) []expression {
	var l []expression
	for _, n := range nodes {
		l = append(l, expressionOf(n))
	}
	return l
}

// linkOf is the way in which a Binary, an At or a Dot goes on with what its first Kid has come to.
func linkOf(n api.Node) link {
	if op, one := sense.Op(n); one {
		return operationOf(op, n, n.Kids[1:])
	}
	return shortcut{n.Text == "||", expressionOf(n.Kids[1])}
}

// firstOf is the way in which an expression is run that is no chain.
func firstOf(n api.Node) expression {
	if n.Kind == api.Lit {
		return literal{n.Val}
	}
	if n.Kind == api.Name {
		return variable{n.Text}
	}
	op, one := sense.Op(n)
	if !one {
		return call{n.Text, expressionsOf(n.Kids)}
	}
	if n.Kind == api.Fields {
		return operationOf(op, n, behindKeys(n))
	}
	return operationOf(op, n, n.Kids)
}

// behindKeys are the expressions of a Fields.
func behindKeys(n api.Node) []api.Node {
	var l []api.Node
	for _, pair := range n.Kids {
		l = append(l, pair.Kids[0])
	}
	return l
}

// operationOf is the way of a node that is one operation, on what some nodes within it come to.
func operationOf(op int, n api.Node, kids []api.Node) operation {
	bare, _ := gas.Cost(op, 0)
	more, _ := gas.Cost(op, 1)
	return operation{op, sense.Constant(n), expressionsOf(kids), more > bare}
}
