package print_test

// A second reading of the chapter. The one form is made as lines that are pushed in by a tab for each Block around
// them, and with brackets by how much must bind at a place; which trees are right is asked of parse: a source says
// a tree just if reading what the model writes gives that tree. The model writes something of every tree, right or
// not, and leaves out what has no place.

import (
	"fmt"
	"strconv"
	"strings"

	"scruple/api"
	"scruple/parse"
)

// show tells all of a tree but the places: each field, and what lists hold.
func show(n api.Node) string {
	var out strings.Builder
	showNode(&out, n)
	return out.String()
}

func showNode(out *strings.Builder, n api.Node) {
	fmt.Fprintf(out, "(%d %q %t ", n.Kind, n.Text, n.Flag)
	showValue(out, n.Val)
	for _, kid := range n.Kids {
		showNode(out, kid)
	}
	out.WriteString(")")
}

func showValue(out *strings.Builder, v api.Value) {
	fmt.Fprintf(out, "<%d %d %q %q", v.Kind, v.N, v.S, v.K)
	for _, x := range v.L {
		showValue(out, x)
	}
	out.WriteString(">")
}

func brief(n api.Node) string { return fmt.Sprintf("%.600s", show(n)) }

// says: is there a source of that tree? (Of one whose one form is no longer than a source may be.)
func says(start string, n api.Node) bool {
	s := model(start, n)
	if len(s) > api.MaxSource {
		panic("too long for the model")
	}
	read := parse.Expr
	if start == "program" {
		read = parse.Program
	}
	m, _, e := read(s)
	return e == api.OK && show(m) == show(n)
}

// model is a tree in the one form.
func model(start string, n api.Node) string {
	if start == "expr" {
		return modelExpr(n, rankOr)
	}
	var fns []string
	for _, fn := range n.Kids {
		fns = append(fns, strings.Join(modelFn(fn), "\n")+"\n")
	}
	return strings.Join(fns, "\n")
}

// kid is one of a node's Kids, or a node of no kind.
func kid(n api.Node, i int) api.Node {
	if i >= 0 && i < len(n.Kids) {
		return n.Kids[i]
	}
	return api.Node{}
}

func modelFn(n api.Node) []string {
	var params []string
	for _, param := range n.Kids[:max(len(n.Kids)-1, 0)] {
		params = append(params, param.Text)
	}
	head := "fn " + n.Text + "(" + strings.Join(params, ", ") + ") "
	if n.Flag {
		head = "export " + head
	}
	return modelBlock(head, kid(n, len(n.Kids)-1))
}

// modelBlock are the lines of a Block, the first one with what stands ahead of it.
func modelBlock(head string, n api.Node) []string {
	lines := []string{head + "{"}
	for _, s := range n.Kids {
		for _, line := range modelStatement(s) {
			lines = append(lines, "\t"+line)
		}
	}
	return append(lines, "}")
}

func modelStatement(n api.Node) []string {
	e := modelExpr(kid(n, 0), rankOr)
	switch n.Kind {
	case api.If:
		lines := modelBlock("if ("+e+") ", kid(n, 1))
		if len(n.Kids) <= 2 {
			return lines
		}
		var other []string
		if n.Kids[2].Kind == api.If {
			other = modelStatement(n.Kids[2])
		} else {
			other = modelBlock("", n.Kids[2])
		}
		lines[len(lines)-1] += " else " + other[0]
		return append(lines, other[1:]...)
	case api.While:
		return modelBlock("while ("+e+") ", kid(n, 1))
	case api.Break:
		return []string{"break;"}
	case api.Continue:
		return []string{"continue;"}
	}
	return []string{modelLine(n, e) + ";"}
}

// modelLine is a statement that has one line, without its end.
func modelLine(n api.Node, e string) string {
	switch n.Kind {
	case api.Let:
		if len(n.Kids) == 0 {
			return "let " + n.Text
		}
		return "let " + n.Text + " = " + e
	case api.Set:
		return n.Text + " = " + e
	case api.Return:
		if len(n.Kids) == 0 {
			return "return"
		}
		return "return " + e
	}
	return e
}

// How much an expression binds.
const (
	rankOr = iota + 1
	rankAnd
	rankCompare
	rankSum
	rankProduct
	rankUnary
	rankReached
)

func rank(n api.Node) int {
	switch n.Kind {
	case api.Unary:
		return rankUnary
	case api.Binary:
		for i, signs := range []string{" || ", " && ", " == != < <= > >= ", " + - ", " * / % "} {
			if strings.Contains(signs, " "+n.Text+" ") {
				return i + 1
			}
		}
		return rankOr
	}
	return rankReached
}

// modelExpr is an expression where one that binds less than least stands in brackets.
func modelExpr(n api.Node, least int) string {
	if rank(n) < least {
		return "(" + modelExpr(n, rankOr) + ")"
	}
	switch n.Kind {
	case api.Lit:
		return modelValue(n.Val)
	case api.Name:
		return n.Text
	case api.Call:
		return n.Text + "(" + modelItems(n) + ")"
	case api.List:
		return "[" + modelItems(n) + "]"
	case api.Fields:
		return "{" + modelItems(n) + "}"
	case api.Pair:
		return modelKey(n.Text) + ": " + modelExpr(kid(n, 0), rankOr)
	case api.Unary:
		return n.Text + modelExpr(kid(n, 0), rankUnary)
	case api.Binary:
		left := rank(n)
		if left == rankCompare {
			left++
		}
		return modelExpr(kid(n, 0), left) + " " + n.Text + " " + modelExpr(kid(n, 1), rank(n)+1)
	case api.At:
		return modelExpr(kid(n, 0), rankReached) + "[" + modelExpr(kid(n, 1), rankOr) + "]"
	case api.Dot:
		return modelExpr(kid(n, 0), rankReached) + "." + n.Text
	}
	return "?"
}

func modelItems(n api.Node) string {
	var items []string
	for _, x := range n.Kids {
		items = append(items, modelExpr(x, rankOr))
	}
	return strings.Join(items, ", ")
}

func modelValue(v api.Value) string {
	switch v.Kind {
	case api.Unit:
		return "unit"
	case api.Bool:
		return strconv.FormatBool(v.N == 1)
	case api.Int:
		return fmt.Sprint(v.N)
	case api.Bytes:
		return modelBytes(v.S)
	}
	return "?"
}

func modelBytes(s string) string {
	out := ""
	for _, c := range []byte(s) {
		switch {
		case c == '"' || c == '\\':
			out += "\\" + string(rune(c))
		case c >= ' ' && c <= '~':
			out += string(rune(c))
		default:
			out += fmt.Sprintf("\\x%02x", c)
		}
	}
	return "\"" + out + "\""
}

// modelKey is a key without quotes, if a source may say it so.
func modelKey(s string) string {
	m, _, e := parse.Expr(s)
	if e == api.OK && m.Kind == api.Name && m.Text == s {
		return s
	}
	return modelBytes(s)
}
