package compile_test

import (
	"fmt"
	"math/rand"
	"slices"
	"strings"

	"scruple/api"
	"scruple/check"
)

// grower makes random programs that check takes. The first letter of a variable and of a Fn says of which kind it is: t a
// Bool, i an Int, b Bytes, a an Array, r a Record. As often as slips says something of another kind is taken.
type grower struct {
	dice    *rand.Rand
	slips   int
	heads   []api.Node // a Fn each, without its Block
	visible []string
	loops   int
	room    int   // nodes that may still grow
	lets    int   // Lets, too
	numbers int64 // the Ints that stand in the source are below it
	broad   int   // the longest List or Fields
}

const kinds = "tibar"

func (g *grower) one(of int) bool { return g.dice.Intn(of) == 0 }

func (g *grower) kind() byte { return kinds[g.dice.Intn(len(kinds))] }

// forms are the ways to come to a kind, each with the kinds that it takes; . is any.
func forms(kind byte) []string {
	return strings.Fields(map[byte]string{
		't': "leaf !:t ==:.. !=:ii <:ii <=:bb >:ii >=:bb &&:tt ||:tt &&:tt ||:tt has:rb drop:b",
		'i': "leaf -:i +:ii -:ii *:ii /:ii %:ii len:b len:a len:r kind:. At:ai At:bi Dot:r abort:.",
		'b': "leaf +:bb slice:bii digest:. after:b leaf",
		'a': "List List List +:aa push:a. change:ai. slice:aii keys:r",
		'r': "Fields Fields with:rb. without:rb load:b save:b.",
	}[kind])
}

func (g *grower) expr(kind byte, depth int) api.Node {
	if g.room--; kind == '.' || g.slips > 0 && g.one(g.slips) {
		kind = g.kind()
	}
	if depth <= 0 || g.room <= 0 || g.one(4) {
		return g.leaf(kind)
	}
	if g.one(6) {
		for _, i := range g.dice.Perm(len(g.heads)) {
			if fn := g.heads[i]; fn.Text[0] == kind {
				takes := ""
				for _, param := range fn.Kids {
					takes += param.Text[:1]
				}
				return node(api.Call, fn.Text, g.exprs(takes, depth-1)...)
			}
		}
	}
	all := forms(kind)
	form, takes, _ := strings.Cut(all[g.dice.Intn(len(all))], ":")
	switch {
	case form == "leaf":
		return g.leaf(kind)
	case form == "List":
		return node(api.List, "", g.exprs(strings.Repeat(".", g.dice.Intn(g.broad)), depth-1)...)
	case form == "Fields":
		return g.fields(depth - 1)
	}
	l := g.exprs(takes, depth-1)
	switch {
	case form == "At":
		return node(api.At, "", l...)
	case form == "Dot":
		return node(api.Dot, g.key(), l...)
	case form[0] >= 'a' && form[0] <= 'z':
		return node(api.Call, form, l...)
	case len(l) == 2:
		return node(api.Binary, form, l...)
	}
	return node(api.Unary, form, l...)
}

func (g *grower) exprs(takes string, depth int) []api.Node {
	var l []api.Node
	for i := range len(takes) {
		l = append(l, g.expr(takes[i], depth))
	}
	return l
}

func (g *grower) key() string { return []string{"k", "i0", "k2", "len", "z"}[g.dice.Intn(5)] }

func (g *grower) leaf(kind byte) api.Node {
	var l []string
	for _, name := range g.visible {
		if name[0] == kind {
			l = append(l, name)
		}
	}
	if len(l) > 0 && !g.one(3) {
		return named(l[g.dice.Intn(len(l))])
	}
	switch kind {
	case 't':
		return lit(truth(g.one(2)))
	case 'i':
		return lit(number(g.dice.Int63n(g.numbers)))
	case 'b':
		return lit(text(g.key()))
	case 'a':
		return node(api.List, "")
	}
	return node(api.Fields, "", node(api.Pair, g.key(), lit(api.Value{})))
}

func (g *grower) fields(depth int) api.Node {
	n := node(api.Fields, "")
	for i := range g.dice.Intn(g.broad) {
		key := fmt.Sprint("k", i)
		if i == 0 {
			key = g.key()
		}
		if i != 2 || key != n.Kids[0].Text {
			n.Kids = append(n.Kids, node(api.Pair, key, g.expr('.', depth)))
		}
	}
	return n
}

func (g *grower) block(depth int, ahead ...api.Node) api.Node {
	outer := len(g.visible)
	n := block(ahead...)
	for count := g.dice.Intn(6); count > 0 && g.room > 0; count-- {
		n.Kids = append(n.Kids, g.statement(depth)...)
	}
	g.visible = g.visible[:outer]
	return n
}

// fresh is the name of a variable that is not visible. One that was, in a Block that has ended, comes again.
func (g *grower) fresh(kind byte) string {
	for i := 0; ; i++ {
		name := fmt.Sprintf("%c%d", kind, i)
		if !slices.Contains(g.visible, name) {
			return name
		}
	}
}

// seen makes a variable visible.
func (g *grower) seen(name string) string {
	g.visible = append(g.visible, name)
	return name
}

func (g *grower) statement(depth int) []api.Node {
	kind := g.kind()
	switch k := g.dice.Intn(20); {
	case k < 3 && g.lets > 0:
		g.lets--
		from := g.expr(kind, 3)
		return []api.Node{node(api.Let, g.seen(g.fresh(kind)), from)}
	case k == 3 && g.lets > 0:
		g.lets--
		name := g.fresh(kind)
		set := func() api.Node { return block(node(api.Set, name, g.expr(kind, 2))) }
		l := []api.Node{node(api.Let, name), node(api.If, "", g.expr('t', 2), set(), set())}
		g.seen(name)
		return l
	case k < 8 && len(g.visible) > 0:
		name := g.visible[g.dice.Intn(len(g.visible))]
		if name[1:] != "n" {
			return []api.Node{node(api.Set, name, g.expr(name[0], 3))}
		}
	case k < 11 && depth > 0:
		return []api.Node{g.choice(depth)}
	case k < 13 && depth > 0 && g.lets > 0 && !slices.Contains(g.visible, "in"):
		g.lets--
		return g.loop(depth)
	case k == 13 && depth < 3:
		return []api.Node{node(api.Return, "", g.exprs("."[:g.dice.Intn(2)], 3)...)}
	case k < 17 && g.loops > 0:
		return []api.Node{node(api.Break+g.dice.Intn(2), "")}
	}
	return []api.Node{do(g.expr('.', 4))}
}

func (g *grower) choice(depth int) api.Node {
	n := node(api.If, "", g.expr('t', 2), g.block(depth-1))
	switch g.dice.Intn(3) {
	case 0:
		n.Kids = append(n.Kids, g.block(depth-1))
	case 1:
		n.Kids = append(n.Kids, g.choice(depth))
	}
	return n
}

// loop counts by a variable that nothing else sets, so that it comes to an end.
func (g *grower) loop(depth int) []api.Node {
	g.loops++
	name := g.seen("in")
	body := g.block(depth-1, node(api.Set, name, node(api.Binary, "+", named(name), lit(number(1)))))
	condition := node(api.Binary, "<", named(name), lit(number(int64(g.dice.Intn(4)))))
	if g.one(3) {
		condition = node(api.Binary, []string{"&&", "||"}[g.dice.Intn(2)], condition, g.expr('t', 2))
	}
	g.loops--
	return []api.Node{node(api.Let, name, lit(number(0))), node(api.While, "", condition, body)}
}

func (g *grower) program(functions, size int) api.Node {
	for i := range functions {
		fn := node(api.Fn, fmt.Sprintf("%c%d", g.kind(), i))
		fn.Flag = i == 0 || g.one(2)
		for k := range g.dice.Intn(4) {
			fn.Kids = append(fn.Kids, node(api.Param, fmt.Sprintf("%cp%d", g.kind(), k)))
		}
		g.heads = append(g.heads, fn)
	}
	n := node(api.Program, "")
	for _, fn := range g.heads {
		g.visible, g.room, g.lets = nil, size, g.dice.Intn(45)
		for _, param := range fn.Kids {
			g.seen(param.Text)
		}
		body := block()
		for g.room > 0 {
			body.Kids = append(body.Kids, g.statement(3)...)
		}
		body.Kids = append(body.Kids, node(api.Return, "", g.expr(fn.Text[0], 1)))
		fn.Kids = append(slices.Clone(fn.Kids), body)
		n.Kids = append(n.Kids, fn)
	}
	return n
}

// numbered gives each node a place of its own.
func numbered(n api.Node, next *int) api.Node {
	n.At = *next
	*next++
	for i := range n.Kids {
		n.Kids[i] = numbered(n.Kids[i], next)
	}
	return n
}

// grown is a random program that check takes; how great, and how broad, is random, too.
func grown(dice *rand.Rand, functions, size, broad int, numbers int64) api.Node {
	for {
		g := &grower{dice: dice, slips: []int{0, 20, 200}[dice.Intn(3)], numbers: numbers, broad: broad}
		n := g.program(functions, size)
		next := dice.Intn(100) - 50
		if _, e := check.Program(n); e == api.OK {
			return numbered(n, &next)
		}
	}
}

// argument is a value of a kind.
func argument(dice *rand.Rand, kind byte) api.Value {
	switch kind {
	case 't':
		return truth(dice.Intn(2) == 0)
	case 'i':
		return number([]int64{0, 1, -1, 7, -1 << 63}[dice.Intn(5)])
	case 'b':
		return text([]string{"", "k", "i0", many("x", 100)}[dice.Intn(4)])
	case 'a':
		return api.Value{Kind: api.Array, L: []api.Value{number(5), text("k")}[:dice.Intn(3)]}
	}
	return api.Value{Kind: api.Record, K: []string{"k"}, L: []api.Value{text("z")}}
}
