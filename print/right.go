package print

import (
	"slices"

	"scruple/api"
	"scruple/lex"
	"scruple/value"
)

// Rows of the signs of a Binary, the ones that bind least first.
const (
	rowOr = iota + 1
	rowAnd
	rowCompare
	rowSum
	rowProduct
)

// right: is it right as what its Kind says? How many parts it has is asked first, since all else goes through them.
func right(n api.Node) bool { return small(n) && formed(n) && deepest(n) <= api.MaxNest }

// small: has a tree at most MaxNodes parts? It gives up at the first one too many: so a list that holds itself, or the
// same one many times over, is not gone through to its end.
func small(n api.Node) bool {
	left := api.MaxNodes
	var values func(l []api.Value) bool
	values = func(l []api.Value) bool {
		for _, v := range l {
			left--
			if left < 0 || !values(v.L) {
				return false
			}
		}
		return true
	}
	var nodes func(n api.Node) bool
	nodes = func(n api.Node) bool {
		left--
		return left >= 0 && values(n.Val.L) && all(n.Kids, nodes)
	}
	return nodes(n)
}

func all(nodes []api.Node, is func(api.Node) bool) bool {
	for _, n := range nodes {
		if !is(n) {
			return false
		}
	}
	return true
}

// formed: are a node, and all within it, as the rows of their Kinds say?
func formed(n api.Node) bool {
	return textFits(n) && flagFits(n) && valFits(n) && kidsFit(n) && all(n.Kids, formed)
}

func textFits(n api.Node) bool {
	switch n.Kind {
	case api.Fn, api.Param, api.Let, api.Set, api.Name, api.Call, api.Dot:
		return lex.IsName(n.Text)
	case api.Unary:
		return n.Text == "-" || n.Text == "!"
	case api.Binary:
		return binds(n) > 0
	case api.Pair:
		return len(n.Text) <= api.MaxKey
	}
	return n.Text == ""
}

func flagFits(n api.Node) bool { return n.Kind == api.Fn || !n.Flag }

func valFits(n api.Node) bool {
	v := n.Val
	if n.Kind != api.Lit {
		return v.Kind == 0 && v.N == 0 && v.S == "" && len(v.L) == 0 && len(v.K) == 0
	}
	switch v.Kind {
	case api.Unit, api.Bool, api.Bytes:
		return value.Right(v)
	case api.Int:
		return v.N >= 0 && value.Right(v)
	}
	return false
}

// kidsFit: are a node's Kids as many, and of such Kinds, as its row says? No row says it of what is no Kind.
func kidsFit(n api.Node) bool {
	count := len(n.Kids)
	switch n.Kind {
	case api.Program:
		return all(n.Kids, isFn)
	case api.Fn:
		return count >= 1 && all(n.Kids[:count-1], isParam) && isBlock(n.Kids[count-1])
	case api.Block:
		return all(n.Kids, isStatement)
	case api.If:
		return count == 2 && isGuarded(n) || count == 3 && isGuarded(n) && isOther(n.Kids[2])
	case api.While:
		return count == 2 && isGuarded(n)
	case api.Let, api.Return:
		return count <= 1 && all(n.Kids, isExpr)
	case api.Set, api.Do, api.Unary, api.Dot, api.Pair:
		return count == 1 && isExpr(n.Kids[0])
	case api.Binary, api.At:
		return count == 2 && all(n.Kids, isExpr)
	case api.Call, api.List:
		return all(n.Kids, isExpr)
	case api.Fields:
		return all(n.Kids, isPair)
	case api.Param, api.Break, api.Continue, api.Lit, api.Name:
		return count == 0
	}
	return false
}

func isFn(n api.Node) bool { return n.Kind == api.Fn }

func isParam(n api.Node) bool { return n.Kind == api.Param }

func isBlock(n api.Node) bool { return n.Kind == api.Block }

func isPair(n api.Node) bool { return n.Kind == api.Pair }

// isGuarded: do a condition and a Block stand first? There are two Kids at least.
func isGuarded(n api.Node) bool { return isExpr(n.Kids[0]) && isBlock(n.Kids[1]) }

// isOther: may it stand behind an else?
func isOther(n api.Node) bool { return n.Kind == api.Block || n.Kind == api.If }

func isStatement(n api.Node) bool {
	switch n.Kind {
	case api.Let, api.Set, api.If, api.While, api.Return, api.Break, api.Continue, api.Do:
		return true
	}
	return false
}

func isExpr(n api.Node) bool {
	switch n.Kind {
	case api.Lit, api.Name, api.Call, api.Unary, api.Binary, api.List, api.Fields, api.At, api.Dot:
		return true
	}
	return false
}

// deepest is how many are open at most within the one form of a node that is formed.
func deepest(n api.Node) int {
	own := opens(n)
	most := own
	for i, kid := range n.Kids {
		around := own
		if n.Kind == api.At && i == 0 {
			around = 0 // what an At is of stands ahead of its bracket
		}
		if bracketed(n, i) {
			around++
		}
		most = max(most, around+deepest(kid))
	}
	return most
}

// opens is 1 of a node that opens something of its own.
func opens(n api.Node) int {
	switch n.Kind {
	case api.Block, api.Call, api.At, api.List, api.Fields, api.Unary:
		return 1
	}
	return 0
}

// bracketed: do brackets that are no node stand about one of a node's Kids?
func bracketed(n api.Node, i int) bool {
	kid := n.Kids[i]
	switch n.Kind {
	case api.Unary:
		return kid.Kind == api.Binary
	case api.At, api.Dot:
		return i == 0 && (kid.Kind == api.Unary || kid.Kind == api.Binary)
	case api.Binary:
		if kid.Kind != api.Binary {
			return false
		}
		// As much goes from the left by itself, but for the row of which there is at most one.
		asMuch := binds(kid) == binds(n) && (i == 1 || binds(n) == rowCompare)
		return asMuch || binds(kid) < binds(n)
	}
	return false
}

// binds is the row of a Binary's sign, 0 of what is no such sign.
func binds(n api.Node) int {
	switch n.Text {
	case "||":
		return rowOr
	case "&&":
		return rowAnd
	case "==", "!=", "<", "<=", ">", ">=":
		return rowCompare
	case "+", "-":
		return rowSum
	case "*", "/", "%":
		return rowProduct
	}
	return 0
}

// sameNodes is asked of small trees alone: it goes through all of both.
func sameNodes(a, b api.Node) bool {
	return a.Kind == b.Kind && a.Text == b.Text && a.Flag == b.Flag && sameValues(a.Val, b.Val) &&
		slices.EqualFunc(a.Kids, b.Kids, sameNodes)
}

// sameValues goes by the fields, not by what they say: values that are not right are held against each other, too.
func sameValues(a, b api.Value) bool {
	return a.Kind == b.Kind && a.N == b.N && a.S == b.S && slices.Equal(a.K, b.K) &&
		slices.EqualFunc(a.L, b.L, sameValues)
}
