// Package sense says which operation an expression is, and which constant that has besides: one meaning for a source's
// own run and for its module. DOC.md tells it ('What a form is as instructions').
package sense

import (
	"scruple/api"
	"scruple/check"
)

// Op is the operation that makes an expression's value of those of its Kids; false: there is no such one, as of a Lit,
// a Name, a Call of a Fn, and of && and ||, which are more than one instruction.
func Op(n api.Node) (int, bool) {
	switch n.Kind {
	case api.Unary:
		return unary(n.Text)
	case api.Binary:
		return binary(n.Text)
	case api.List:
		return api.OpArray, true
	case api.Fields:
		return api.OpRecord, true
	case api.At:
		return api.OpIndex, true
	case api.Dot:
		return api.OpField, true
	case api.Call:
		op, _, builtin := check.Builtin(n.Text)
		return op, builtin
	}
	return 0, false
}

// Constant is the one that the operation of a Fields or of a Dot has besides: its keys, its key. Unit of all others.
func Constant(n api.Node) api.Value {
	switch n.Kind {
	case api.Fields:
		keys := api.Value{Kind: api.Array}
		for _, pair := range n.Kids {
			keys.L = append(keys.L, key(pair))
		}
		return keys
	case api.Dot:
		return key(n)
	}
	return api.Value{}
}

// key is that of a Pair or of a Dot.
func key(n api.Node) api.Value { return api.Value{Kind: api.Bytes, S: n.Text} }

func unary(sign string) (int, bool) {
	switch sign {
	case "-":
		return api.OpNeg, true
	case "!":
		return api.OpNot, true
	}
	return 0, false
}

func binary(sign string) (int, bool) {
	switch sign {
	case "+":
		return api.OpAdd, true
	case "-":
		return api.OpSub, true
	case "*":
		return api.OpMul, true
	case "/":
		return api.OpDiv, true
	case "%":
		return api.OpRem, true
	case "==":
		return api.OpEq, true
	case "!=":
		return api.OpNe, true
	case "<":
		return api.OpLt, true
	case "<=":
		return api.OpLe, true
	case ">":
		return api.OpGt, true
	case ">=":
		return api.OpGe, true
	}
	return 0, false
}
