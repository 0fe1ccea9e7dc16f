package eval_test

import (
	"fmt"
	"math/rand"
	"slices"
	"strings"

	"scruple/api"
	"scruple/check"
)

// Kinds of what an expression is to come to: a letter each.
const kinds = "utibar"

// known is a variable or a function of the program that grows.
type known struct {
	name   string
	kind   byte   // of its value, or its result
	params string // a function's: their kinds
	fixed  bool   // a While counts by it
}

// grower makes random programs that check takes. Most of what they take is of the kind that is asked for; now and then,
// as often as slips says, it is of another one.
type grower struct {
	dice    *rand.Rand
	slips   int
	fns     []known
	visible []known
	loops   int
	room    int
	count   int  // names
	result  byte // the kind of what the function returns
}

func (g *grower) one(of int) bool { return g.dice.Intn(of) == 0 }

func (g *grower) pick(words string) string {
	l := strings.Fields(words)
	return l[g.dice.Intn(len(l))]
}

// likely are variables of a kind.
func (g *grower) likely(kind byte, fixed bool) []known {
	var l []known
	for _, v := range g.visible {
		if (v.kind == kind || g.slips > 0 && g.one(g.slips)) && (fixed || !v.fixed) {
			l = append(l, v)
		}
	}
	return l
}

// each is an expression of each of some kinds.
func (g *grower) each(wanted string, depth int) []api.Node {
	var l []api.Node
	for i := range len(wanted) {
		l = append(l, g.expr(wanted[i], depth))
	}
	return l
}

func (g *grower) expr(kind byte, depth int) api.Node {
	g.room--
	if kind == '.' || g.slips > 0 && g.one(g.slips) {
		kind = kinds[g.dice.Intn(6)]
	}
	if l := g.likely(kind, true); len(l) > 0 && g.one(3) {
		return named(l[g.dice.Intn(len(l))].name)
	}
	if depth <= 0 || g.room < 0 {
		return g.leaf(kind)
	}
	if g.one(6) {
		if n, ok := g.call(kind, depth-1); ok {
			return n
		}
	}
	form := g.pick(forms(kind))
	switch {
	case form == "leaf":
		return g.leaf(kind)
	case form == "list":
		return node(api.List, "", g.each("..."[:g.dice.Intn(4)], depth-1)...)
	case form == "fields":
		return g.fields(depth - 1)
	case form == "at":
		return node(api.At, "", g.expr("ab"[g.dice.Intn(2)], depth-1), g.small(depth-1))
	case form == "dot":
		return node(api.Dot, g.pick("a k a0"), g.expr('r', depth-1))
	}
	name, takes, _ := strings.Cut(form, ":")
	l := g.each(takes, depth-1)
	for i := 1; i < len(l); i++ {
		if takes[i] == 'i' && (name == "slice" || name == "change") {
			l[i] = g.small(depth - 1)
		}
	}
	if takes == "bb" && name != "+" && (name == "with" || name == "has") {
		l[1] = lit(text(g.pick("a k a0 z")))
	}
	return called(name, l...)
}

// called is a Call, a Binary or a Unary of a name or sign.
func called(name string, l ...api.Node) api.Node {
	switch {
	case name[0] >= 'a':
		return node(api.Call, name, l...)
	case len(l) == 2:
		return node(api.Binary, name, l...)
	}
	return node(api.Unary, name, l...)
}

// forms are those that come to a kind, each with the kinds that it takes.
func forms(kind byte) string {
	switch kind {
	case 'u':
		return "leaf save:b. save:b. load:b after:b"
	case 't':
		return "leaf !:t ==:.. !=:ii <:ii <=:bb >:ii >=:bb &&:tt ||:tt &&:tt ||:tt has:rb drop:b"
	case 'i':
		return "leaf -:i +:ii -:ii *:ii /:ii %:ii len:b len:a len:r kind:. at +:ii dot"
	case 'b':
		return "leaf +:bb slice:bii digest:. leaf at after:b leaf"
	case 'a':
		return "leaf list list +:aa push:a. change:ai. slice:aii keys:r"
	}
	return "fields fields with:rb. without:rb leaf"
}

// small is a number that may be a place.
func (g *grower) small(depth int) api.Node {
	if g.one(4) {
		return g.expr('i', depth)
	}
	return lit(number(int64(g.dice.Intn(3))))
}

func (g *grower) leaf(kind byte) api.Node {
	switch kind {
	case 't':
		return lit(truth(g.one(2)))
	case 'i':
		return lit(number([]int64{0, 1, 2, 3, 7, 1 << 40, 1<<63 - 1}[g.dice.Intn(7)]))
	case 'b':
		return lit(text([]string{"", "a", "k", "a0", "c000", "d00", "xyz", strings.Repeat("x", 33), strings.Repeat("y", 1500)}[g.dice.Intn(9)]))
	case 'a':
		return node(api.List, "", lit(number(1)), lit(text("a")), lit(truth(true)))
	case 'r':
		return node(api.Fields, "", node(api.Pair, "k", lit(number(2))), node(api.Pair, "a", lit(text("a"))))
	}
	return lit(unit)
}

func (g *grower) fields(depth int) api.Node {
	n := node(api.Fields, "")
	keys := []string{"k", "a", "a0", "if", ""}
	g.dice.Shuffle(len(keys), func(i, j int) { keys[i], keys[j] = keys[j], keys[i] })
	for _, key := range keys[:g.dice.Intn(4)] {
		n.Kids = append(n.Kids, node(api.Pair, key, g.expr('.', depth)))
	}
	return n
}

func (g *grower) call(kind byte, depth int) (api.Node, bool) {
	fn := g.fns[g.dice.Intn(len(g.fns))]
	if fn.kind != kind && !g.one(10) {
		return api.Node{}, false
	}
	return node(api.Call, fn.name, g.each(fn.params, depth)...), true
}

func (g *grower) block(depth int, ahead ...api.Node) api.Node {
	outer := len(g.visible)
	n := node(api.Block, "", ahead...)
	for range g.dice.Intn(5) {
		n.Kids = append(n.Kids, g.statement(depth)...)
	}
	g.visible = g.visible[:outer]
	return n
}

// fresh is a name that is not visible; one that was, in a Block that has ended, may come again.
func (g *grower) fresh() string {
	for {
		name := g.pick("a b c d e g0 len save")
		if g.one(3) {
			g.count++
			name = fmt.Sprint("v", g.count)
		}
		if !slices.ContainsFunc(g.visible, func(v known) bool { return v.name == name }) {
			return name
		}
	}
}

func (g *grower) let(depth int) []api.Node {
	kind := kinds[g.dice.Intn(6)]
	if g.one(4) { // set on two ways
		name := g.fresh()
		set := func() api.Node { return node(api.Block, "", node(api.Set, name, g.expr(kind, depth))) }
		l := []api.Node{node(api.Let, name), node(api.If, "", g.expr('t', depth), set(), set())}
		g.visible = append(g.visible, known{name: name, kind: kind})
		return l
	}
	from := g.expr(kind, depth)
	name := g.fresh()
	g.visible = append(g.visible, known{name: name, kind: kind})
	return []api.Node{node(api.Let, name, from)}
}

func (g *grower) statement(depth int) []api.Node {
	if g.room--; g.room < 0 {
		return nil
	}
	switch k := g.dice.Intn(20); {
	case k < 5:
		return g.let(2)
	case k < 8:
		kind := kinds[g.dice.Intn(6)]
		if l := g.likely(kind, false); len(l) > 0 {
			return []api.Node{node(api.Set, l[g.dice.Intn(len(l))].name, g.expr(kind, 3))}
		}
	case k < 11 && depth > 0:
		return []api.Node{g.choice(depth)}
	case k < 13 && depth > 0:
		return g.loop(depth)
	case k == 13:
		return []api.Node{node(api.Return, "", g.each(string(g.result)[:g.dice.Intn(2)], 3)...)}
	case k < 17 && g.loops > 0:
		return []api.Node{node(api.Break+g.dice.Intn(2), "")}
	case k == 17 && g.one(8):
		return []api.Node{do(node(api.Call, "abort", g.expr('.', 1)))}
	}
	return []api.Node{do(g.expr('.', 3))}
}

func (g *grower) choice(depth int) api.Node {
	n := node(api.If, "", g.expr('t', 2), g.block(depth-1))
	switch g.dice.Intn(3) {
	case 0:
		n.Kids = append(n.Kids, g.block(depth-1))
	case 1:
		n.Kids = append(n.Kids, g.choice(depth))
	}
	return n
}

// loop counts most of the time, so that it comes to an end.
func (g *grower) loop(depth int) []api.Node {
	g.loops++
	defer func() { g.loops-- }()
	if g.one(5) {
		condition := g.expr('t', 2)
		return []api.Node{node(api.While, "", condition, g.block(depth-1))}
	}
	name := g.fresh()
	g.visible = append(g.visible, known{name: name, kind: 'i', fixed: true})
	count := node(api.Set, name, called("+", named(name), lit(number(1))))
	condition := called("<", named(name), lit(number(int64(g.dice.Intn(4)))))
	if g.one(3) {
		condition = called("&&", condition, g.expr('t', 2))
	}
	return []api.Node{node(api.Let, name, lit(number(0))), node(api.While, "", condition, g.block(depth-1, count))}
}

func (g *grower) program(depth int) api.Node {
	for i := range 1 + g.dice.Intn(4) {
		params := ""
		for range g.dice.Intn(4) {
			params += string(kinds[g.dice.Intn(6)])
		}
		g.fns = append(g.fns, known{name: string(rune('f' + i)), kind: kinds[g.dice.Intn(6)], params: params})
	}
	n := node(api.Program, "")
	for _, f := range g.fns {
		fn := node(api.Fn, f.name)
		fn.Flag = f.name == "f" || g.one(2)
		g.visible, g.result = nil, f.kind
		for i := range len(f.params) {
			name := g.fresh()
			g.visible = append(g.visible, known{name: name, kind: f.params[i]})
			fn.Kids = append(fn.Kids, node(api.Param, name))
		}
		g.room = 60
		body := g.block(depth)
		body.Kids = append(body.Kids, node(api.Return, "", g.leaf(f.kind)))
		if l := g.likely(f.kind, true); len(l) > 0 && g.one(2) {
			body.Kids[len(body.Kids)-1].Kids[0] = named(l[g.dice.Intn(len(l))].name)
		}
		fn.Kids = append(fn.Kids, body)
		n.Kids = append(n.Kids, fn)
	}
	return n
}

// grown is a random program that check takes, whose f is exported, and arguments that f likes.
func grown(dice *rand.Rand) (api.Node, []api.Value) {
	for {
		g := &grower{dice: dice, slips: []int{0, 20, 60, 200}[dice.Intn(4)]}
		n := g.program(1 + dice.Intn(4))
		if _, e := check.Program(n); e != api.OK {
			continue
		}
		return n, g.args(g.fns[0].params)
	}
}

// pool are values of a kind.
func pool(kind byte) []api.Value {
	switch kind {
	case 't':
		return []api.Value{truth(false), truth(true)}
	case 'i':
		return []api.Value{number(0), number(1), number(-1), number(5), number(-1 << 63)}
	case 'b':
		return []api.Value{text(""), text("a"), text("k"), text("\x00\xff"), longText(400), longText(1500)}
	case 'a':
		return []api.Value{list(), list(number(1), text("a")), list(list(), record("k", number(2))), units(300), units(1500)}
	case 'r':
		return []api.Value{record(""), record("a", number(1)), record("a k", list(unit), text("x"))}
	}
	return []api.Value{unit}
}

func (g *grower) args(params string) []api.Value {
	if g.one(40) {
		params += "i"
	}
	var out []api.Value
	for i := range len(params) {
		kind := params[i]
		if g.one(40) {
			kind = kinds[g.dice.Intn(6)]
		}
		all := pool(kind)
		out = append(out, all[g.dice.Intn(len(all))])
	}
	return out
}
