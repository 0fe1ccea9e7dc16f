package parse_test

import (
	"slices"
	"strings"

	"scruple/api"
	"scruple/lex"
)

// A second reading of P17.1 and P17.2, in three parts that know nothing of each other: which tokens may stand where is
// asked of a grammar, by all ways at once; what is open is counted along the tokens; and the tree is made from the
// outside inwards, an expression being cut at the sign that binds least.

// The language's rows; what stands at the left of one is no token.
const grammar = `
Program =
Program = Program Fn
Fn = fn NAME ( Params ) Block
Fn = export fn NAME ( Params ) Block
Params =
Params = Names
Names = NAME
Names = Names , NAME
Block = { Statements }
Statements =
Statements = Statements Statement
Statement = let NAME ;
Statement = let NAME = Or ;
Statement = NAME = Or ;
Statement = If
Statement = while ( Or ) Block
Statement = return ;
Statement = return Or ;
Statement = break ;
Statement = continue ;
Statement = Or ;
If = if ( Or ) Block
If = if ( Or ) Block else Block
If = if ( Or ) Block else If
Or = And
Or = Or || And
And = Compare
And = And && Compare
Compare = Sum
Compare = Sum == Sum
Compare = Sum != Sum
Compare = Sum < Sum
Compare = Sum <= Sum
Compare = Sum > Sum
Compare = Sum >= Sum
Sum = Product
Sum = Sum + Product
Sum = Sum - Product
Product = Unary
Product = Product * Unary
Product = Product / Unary
Product = Product % Unary
Unary = Reached
Unary = - Unary
Unary = ! Unary
Reached = INT
Reached = BYTES
Reached = true
Reached = false
Reached = unit
Reached = NAME
Reached = NAME ( List )
Reached = [ List ]
Reached = { Fields }
Reached = ( Or )
Reached = Reached [ Or ]
Reached = Reached . NAME
List =
List = Items
Items = Or
Items = Items , Or
Fields =
Fields = Pairs
Pairs = Pair
Pairs = Pairs , Pair
Pair = NAME : Or
Pair = KEY : Or
`

type rule struct {
	left  string
	right []string
}

// rules are the grammar's, by what stands at their left.
var rules = func() map[string][]*rule {
	out := map[string][]*rule{}
	for _, line := range strings.Split(strings.TrimSpace(grammar), "\n") {
		words := strings.Fields(line)
		out[words[0]] = append(out[words[0]], &rule{words[0], words[2:]})
	}
	return out
}()

// part is a rule that is under way: so many of its right side have been met, from that token on.
type part struct {
	rule *rule
	met  int
	from int
}

func (p part) wants() string {
	if p.met == len(p.rule.right) {
		return ""
	}
	return p.rule.right[p.met]
}

// chart is, for each number of tokens, all that may be under way behind these.
type chart struct {
	start string
	sets  [][]part
}

func newChart(start string) *chart {
	c := &chart{start: start}
	c.close([]part{})
	return c
}

// close adds all that follows from what is under way, and the set to the chart.
func (c *chart) close(set []part) {
	here := len(c.sets)
	seen := map[part]bool{}
	var todo []part
	add := func(p part) {
		if !seen[p] {
			seen[p] = true
			todo = append(todo, p)
		}
	}
	if here == 0 {
		for _, r := range rules[c.start] {
			add(part{r, 0, 0})
		}
	}
	for _, p := range set {
		add(p)
	}
	for i := 0; i < len(todo); i++ {
		p := todo[i]
		if p.wants() != "" {
			for _, r := range rules[p.wants()] {
				add(part{r, 0, here})
				if len(r.right) == 0 {
					add(part{p.rule, p.met + 1, p.from})
				}
			}
			continue
		}
		around := todo
		if p.from < here {
			around = c.sets[p.from]
		}
		for _, q := range slices.Clone(around) {
			if q.wants() == p.rule.left {
				add(part{q.rule, q.met + 1, q.from})
			}
		}
	}
	c.sets = append(c.sets, todo)
}

// terminals are what a token may be in the grammar.
func terminals(token api.Token) []string {
	switch token.Kind {
	case api.TokName:
		return []string{"NAME"}
	case api.TokInt:
		return []string{"INT"}
	case api.TokBytes:
		if len(token.Text) > 32 {
			return []string{"BYTES"}
		}
		return []string{"BYTES", "KEY"}
	case api.TokEnd:
		return nil
	}
	return []string{token.Text}
}

// push takes a token in, if it may stand there; else nothing is changed.
func (c *chart) push(token api.Token) bool {
	may := terminals(token)
	var set []part
	for _, p := range c.sets[len(c.sets)-1] {
		if slices.Contains(may, p.wants()) {
			set = append(set, part{p.rule, p.met + 1, p.from})
		}
	}
	if len(set) == 0 {
		return false
	}
	c.close(set)
	return true
}

// pop takes the last token back.
func (c *chart) pop() { c.sets = c.sets[:len(c.sets)-1] }

// whole: may the end stand here?
func (c *chart) whole() bool {
	return slices.ContainsFunc(c.sets[len(c.sets)-1], func(p part) bool {
		return p.wants() == "" && p.from == 0 && p.rule.left == c.start
	})
}

func isSign(token api.Token, among string) bool {
	return token.Kind == api.TokSign && slices.Contains(strings.Fields(among), token.Text)
}

func isKey(token api.Token, among string) bool {
	return token.Kind == api.TokKey && slices.Contains(strings.Fields(among), token.Text)
}

// endsOperand: may an operand end with this token? Then a sign behind it is a Binary's.
func endsOperand(token api.Token) bool {
	return token.Kind == api.TokName || token.Kind == api.TokInt || token.Kind == api.TokBytes ||
		isKey(token, "true false unit") || isSign(token, ") ] }")
}

// signs: is the token at i the sign of a Unary? What stands ahead of it may stand there.
func signs(l []api.Token, i int) bool {
	if !isSign(l[i], "- !") {
		return false
	}
	// Behind the `}` of a Block or the `)` of nothing but a statement's head an operand begins: a `-` there is a
	// Unary's, and only what the bracket belongs to says which it is.
	if i > 0 && isSign(l[i-1], "}") {
		return !closesFields(l[:i])
	}
	return i == 0 || !endsOperand(l[i-1])
}

// closesFields: is the `}` at the end of these tokens that of a Fields, not of a Block?
func closesFields(l []api.Token) bool {
	open := 0
	for i := len(l) - 1; i >= 0; i-- {
		if isSign(l[i], "}") {
			open++
		}
		if isSign(l[i], "{") {
			open--
		}
		if open == 0 {
			return !opensBlock(l, i)
		}
	}
	return true
}

// opensBlock: is the `{` at i that of a Block? A Block stands behind a head's `)`, or behind else; a Fields behind no
// operand, so never behind a `)`.
func opensBlock(l []api.Token, i int) bool {
	return i > 0 && (isSign(l[i-1], ")") || isKey(l[i-1], "else"))
}

// opened are how many are open at the last of these tokens, all of which may stand there.
func opened(l []api.Token) int {
	var open []string
	unsign := func() {
		for len(open) > 0 && open[len(open)-1] == "sign" {
			open = open[:len(open)-1]
		}
	}
	for i, token := range l {
		switch {
		case signs(l, i):
			open = append(open, "sign")
		case isSign(token, "(") && i > 0 && (isKey(l[i-1], "if while") || i > 1 && isKey(l[i-2], "fn")):
			open = append(open, "head")
		case isSign(token, "( [ {"):
			open = append(open, "bracket")
		case isSign(token, ") ] }"):
			unsign()
			open = open[:len(open)-1]
		case isSign(token, "."):
		case token.Kind == api.TokSign:
			unsign()
		}
	}
	count := 0
	for _, s := range open {
		if s != "head" {
			count++
		}
	}
	return count
}

// model is a second reading of P17.1 (of the start Program) and P17.2 (of the start Or).
func model(start, s string) (api.Node, int, api.Errno) {
	l, at, e := lex.All(s)
	if e != api.OK {
		return api.Node{}, at, e
	}
	c := newChart(start)
	for i, token := range l {
		if token.Kind == api.TokEnd && c.whole() {
			break
		}
		if !c.push(token) {
			return api.Node{}, token.At, api.ErrParseToken
		}
		if opened(l[:i+1]) > 24 {
			return api.Node{}, token.At, api.ErrParseDeep
		}
	}
	return modelTree(start, l[:len(l)-1]), 0, api.OK
}

func modelTree(start string, l []api.Token) api.Node {
	if start == "Program" {
		return api.Node{Kind: api.Program, Kids: modelFns(l)}
	}
	return modelExpr(l)
}

// closing is the place of the bracket that closes the one at i.
func closing(l []api.Token, i int) int {
	open := 0
	for ; ; i++ {
		if isSign(l[i], "( [ {") {
			open++
		}
		if isSign(l[i], ") ] }") {
			open--
		}
		if open == 0 {
			return i
		}
	}
}

// cut are the rows of tokens between the signs of that text which stand in no brackets; of none there are none.
func cut(l []api.Token, sign string) [][]api.Token {
	var out [][]api.Token
	for len(l) > 0 {
		end := 0
		for end < len(l) && !isSign(l[end], sign) {
			if isSign(l[end], "( [ {") {
				end = closing(l, end)
			}
			end++
		}
		out = append(out, l[:end])
		l = l[min(end+1, len(l)):]
	}
	return out
}

func modelFns(l []api.Token) []api.Node {
	var out []api.Node
	for len(l) > 0 {
		n := api.Node{Kind: api.Fn, Flag: isKey(l[0], "export"), At: l[0].At}
		open := slices.IndexFunc(l, func(t api.Token) bool { return isSign(t, "(") })
		n.Text = l[open-1].Text
		block := closing(l, open) + 1
		for _, p := range cut(l[open+1:block-1], ",") {
			n.Kids = append(n.Kids, api.Node{Kind: api.Param, Text: p[0].Text, At: p[0].At})
		}
		end := closing(l, block) + 1
		n.Kids = append(n.Kids, modelBlock(l[block:end]))
		out = append(out, n)
		l = l[end:]
	}
	return out
}

func modelBlock(l []api.Token) api.Node {
	n := api.Node{Kind: api.Block, At: l[0].At}
	l = l[1 : len(l)-1]
	for len(l) > 0 {
		end := modelEnd(l)
		n.Kids = append(n.Kids, modelStatement(l[:end]))
		l = l[end:]
	}
	return n
}

// modelEnd is how many tokens the first statement has.
func modelEnd(l []api.Token) int {
	if !isKey(l[0], "if while") {
		return len(cut(l, ";")[0]) + 1
	}
	end := closing(l, closing(l, 1)+1) + 1
	if isKey(l[0], "while") || end == len(l) || !isKey(l[end], "else") {
		return end
	}
	if isKey(l[end+1], "if") {
		return end + 1 + modelEnd(l[end+1:])
	}
	return closing(l, end+1) + 1
}

func modelStatement(l []api.Token) api.Node {
	kinds := map[string]int{"let": api.Let, "if": api.If, "while": api.While, "return": api.Return, "break": api.Break, "continue": api.Continue}
	kind := 0
	if l[0].Kind == api.TokKey {
		kind = kinds[l[0].Text]
	}
	n := api.Node{Kind: kind, At: l[0].At}
	body := l[:len(l)-1] // without the `;`
	switch {
	case kind == api.If || kind == api.While:
		behind := closing(l, 1)
		end := closing(l, behind+1) + 1
		n.Kids = []api.Node{modelExpr(l[2:behind]), modelBlock(l[behind+1 : end])}
		if end < len(l) && isKey(l[end+1], "if") {
			n.Kids = append(n.Kids, modelStatement(l[end+1:]))
		} else if end < len(l) {
			n.Kids = append(n.Kids, modelBlock(l[end+1:]))
		}
		return n
	case kind == api.Let:
		n.Text = l[1].Text
		body = body[min(3, len(body)):]
	case kind != 0:
		body = body[1:]
	case l[0].Kind == api.TokName && isSign(l[1], "="):
		n.Kind, n.Text = api.Set, l[0].Text
		body = body[2:]
	default:
		n.Kind = api.Do
	}
	if len(body) > 0 {
		n.Kids = []api.Node{modelExpr(body)}
	}
	return n
}

// modelExpr cuts at the last one of the signs that bind least, which stands in no brackets.
func modelExpr(l []api.Token) api.Node {
	for _, row := range []string{"||", "&&", "== != < <= > >=", "+ -", "* / %"} {
		at := -1
		for i := 0; i < len(l); i++ {
			if isSign(l[i], "( [ {") {
				i = closing(l, i)
			} else if isSign(l[i], row) && i > 0 && endsOperand(l[i-1]) {
				at = i
			}
		}
		if at > 0 {
			return api.Node{Kind: api.Binary, Text: l[at].Text, Kids: []api.Node{modelExpr(l[:at]), modelExpr(l[at+1:])}, At: l[at].At}
		}
	}
	if isSign(l[0], "- !") {
		return api.Node{Kind: api.Unary, Text: l[0].Text, Kids: []api.Node{modelExpr(l[1:])}, At: l[0].At}
	}
	return modelReached(l)
}

// modelReached looks at what stands last: an At and a Dot end with what they add.
func modelReached(l []api.Token) api.Node {
	last := len(l) - 1
	if last > 0 && isSign(l[last-1], ".") {
		return api.Node{Kind: api.Dot, Text: l[last].Text, Kids: []api.Node{modelExpr(l[:last-1])}, At: l[last-1].At}
	}
	if last == 0 {
		return modelWord(l[0])
	}
	open := last
	for !isSign(l[open], "( [ {") || closing(l, open) != last {
		open--
	}
	inner := l[open+1 : last]
	switch {
	case open == 0 && isSign(l[0], "("):
		return modelExpr(inner)
	case open == 0 && isSign(l[0], "["):
		return api.Node{Kind: api.List, Kids: modelItems(inner), At: l[0].At}
	case open == 0:
		n := api.Node{Kind: api.Fields, At: l[0].At}
		for _, p := range cut(inner, ",") {
			n.Kids = append(n.Kids, api.Node{Kind: api.Pair, Text: p[0].Text, Kids: []api.Node{modelExpr(p[2:])}, At: p[0].At})
		}
		return n
	case isSign(l[open], "("):
		return api.Node{Kind: api.Call, Text: l[0].Text, Kids: modelItems(inner), At: l[0].At}
	}
	return api.Node{Kind: api.At, Kids: []api.Node{modelExpr(l[:open]), modelExpr(inner)}, At: l[open].At}
}

func modelItems(l []api.Token) []api.Node {
	var out []api.Node
	for _, x := range cut(l, ",") {
		out = append(out, modelExpr(x))
	}
	return out
}

func modelWord(token api.Token) api.Node {
	n := api.Node{Kind: api.Lit, At: token.At}
	switch {
	case token.Kind == api.TokName:
		n.Kind, n.Text = api.Name, token.Text
	case token.Kind == api.TokInt:
		n.Val = api.Value{Kind: api.Int, N: token.N}
	case token.Kind == api.TokBytes:
		n.Val = api.Value{Kind: api.Bytes, S: token.Text}
	case token.Text == "true":
		n.Val = api.Value{Kind: api.Bool, N: 1}
	case token.Text == "false":
		n.Val = api.Value{Kind: api.Bool}
	}
	return n
}
