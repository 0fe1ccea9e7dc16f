package print_test

import (
	"fmt"
	"math"
	"math/rand"
	"slices"
	"strings"
	"testing"
	"unsafe"

	"scruple/api"
	"scruple/lex"
	"scruple/parse"
	"scruple/print"
	"scruple/value"
)

var signs = strings.Fields("|| && == != < <= > >= + - * / %")

func many(s string, count int) string { return strings.Repeat(s, count) }

// node is one of a kind, with a Text and Kids.
func node(kind int, text string, kids ...api.Node) api.Node {
	return api.Node{Kind: kind, Text: text, Kids: kids}
}

func named(text string) api.Node { return node(api.Name, text) }

func lit(v api.Value) api.Node { return api.Node{Kind: api.Lit, Val: v} }

func number(n int64) api.Node { return lit(api.Value{Kind: api.Int, N: n}) }

func bytes(s string) api.Node { return lit(api.Value{Kind: api.Bytes, S: s}) }

func block(l ...api.Node) api.Node { return node(api.Block, "", l...) }

func do(n api.Node) api.Node { return node(api.Do, "", n) }

// fn is a function f of these statements.
func fn(l ...api.Node) api.Node { return node(api.Fn, "f", block(l...)) }

// program has one function of these statements.
func program(l ...api.Node) api.Node { return node(api.Program, "", fn(l...)) }

// wrapped is a node with something about it so many times.
func wrapped(n api.Node, times int, about func(api.Node) api.Node) api.Node {
	for range times {
		n = about(n)
	}
	return n
}

func negated(n api.Node) api.Node { return node(api.Unary, "-", n) }

// isRight asks each call whether a tree is right: they must agree.
func isRight(t *testing.T, start string, n api.Node) bool {
	t.Helper()
	if start == "expr" {
		s, e := print.Expr(n)
		if e != api.OK && (s != "" || e != api.ErrPrintForm) || e == api.OK && s == "" {
			t.Fatalf("Expr of %s is %.80q, %v", brief(n), s, e)
		}
		return e == api.OK
	}
	s, e := print.Program(n)
	right := print.Right(n)
	if right != (e == api.OK) || !right && (s != "" || e != api.ErrPrintForm) {
		t.Fatalf("Program of %s is %.80q, %v, and Right %t", brief(n), s, e, right)
	}
	return right
}

// as asks whether a tree is right, as an expression, as a program of that one, and within one.
func as(t *testing.T, n api.Node, want bool) {
	t.Helper()
	if isRight(t, "expr", n) != want {
		t.Errorf("Expr: %s: want right %t", brief(n), want)
	}
	within := program(do(node(api.List, "", number(1), n)))
	if deep := isRight(t, "program", within); deep && !want {
		t.Errorf("Program: %s: want it refused", brief(within))
	}
}

// text holds the one form of an expression's source against what is wanted; printed again it is the same.
func text(t *testing.T, source, want string) {
	t.Helper()
	n, at, e := parse.Expr(source)
	if e != api.OK {
		t.Errorf("%q is no source: %d, %v", source, at, e)
		return
	}
	if s, e := print.Expr(n); s != want || e != api.OK {
		t.Errorf("Expr of the tree of %q is %q, %v, want %q", source, s, e, want)
	}
}

// lines holds the one form of a program's source against lines.
func lines(t *testing.T, source string, want ...string) {
	t.Helper()
	n, at, e := parse.Program(source)
	if e != api.OK {
		t.Errorf("%q is no source: %d, %v", source, at, e)
		return
	}
	all := ""
	for _, line := range want {
		all += line + "\n"
	}
	if s, e := print.Program(n); s != all || e != api.OK || !print.Right(n) {
		t.Errorf("Program of the tree of %q is %q, %v, want %q", source, s, e, all)
	}
}

func TestExamples(t *testing.T) {
	text(t, `((a)+(b*c))-(d-e)`, `a + b * c - (d - e)`)
	text(t, `-(a+b)`, `-(a + b)`)
	text(t, `(-a)[0]`, `(-a)[0]`)
	text(t, `- -1`, `--1`)
	text(t, `(a<b)==c`, `(a < b) == c`)
	text(t, `(a.b).c[1]`, `a.b.c[1]`)
	text(t, `{"a":1,"if":2,"x y":{}}`, `{a: 1, "if": 2, "x y": {}}`)
	text(t, `[ ]`, `[]`)
	text(t, `f( )`, `f()`)
	lines(t, `fn f(){}export fn g(a,b){if(a){}else if(b){return;}else{a=1;}}`,
		"fn f() {", "}", "", "export fn g(a, b) {", "\tif (a) {", "\t} else if (b) {", "\t\treturn;", "\t} else {", "\t\ta = 1;", "\t}", "}")
	as(t, number(-1), false)
	as(t, lit(api.Value{Kind: api.Array}), false)
	as(t, named("if"), false)
	as(t, node(api.Binary, "&", number(1), number(1)), false)
	if isRight(t, "program", program(node(api.If, "", number(1), block(), block(), block()))) {
		t.Errorf("an If with four Kids is taken")
	}
	as(t, wrapped(named("a"), 24, negated), true)
	as(t, wrapped(named("a"), 25, negated), false)
}

func TestExamplesOfTheWhole(t *testing.T) {
	lines(t, `fn f(){return(1+2)*3;}`, "fn f() {", "\treturn (1 + 2) * 3;", "}")
	lines(t, `export fn f(a) { return a + 1; }`, "export fn f(a) {", "\treturn a + 1;", "}")
	lines(t, `export fn g() { save("k", 1); return load("k"); }`, "export fn g() {", "\tsave(\"k\", 1);", "\treturn load(\"k\");", "}")
}

func TestP182Expressions(t *testing.T) {
	for _, row := range [][2]string{
		{"unit", "unit"}, {"true", "true"}, {"false", "false"}, {"0", "0"}, {"9223372036854775807", "9223372036854775807"},
		{`""`, `""`}, {`"a\"\\\x41\x0a\x7f\xff ~"`, `"a\"\\A\x0a\x7f\xff ~"`}, {"(((a)))", "a"}, {"_", "_"},
		{"f(a)", "f(a)"}, {"f((a),(b+c))", "f(a, b + c)"}, {"f(-a,!b)", "f(-a, !b)"}, {"f(f(),g(1,2,3))", "f(f(), g(1, 2, 3))"},
		{"[1]", "[1]"}, {"[1,[],[2,3]]", "[1, [], [2, 3]]"}, {"[(1||2)]", "[1 || 2]"},
		{"{}", "{}"}, {"{a:(1)}", "{a: 1}"}, {"{a:1,a:2}", "{a: 1, a: 2}"}, {`{"":1}`, `{"": 1}`}, {`{"_a1":1,"1a":2}`, `{_a1: 1, "1a": 2}`}, {`{a:{"b":(c||d)}}`, "{a: {b: c || d}}"},
		{"-a", "-a"}, {"!a", "!a"}, {"-!a", "-!a"}, {"!-a", "!-a"}, {"- - -a", "---a"}, {"-(-a)", "--a"}, {"-(a[0])", "-a[0]"}, {"-(a.b)", "-a.b"}, {"-(f())", "-f()"}, {"!(a*b)", "!(a * b)"}, {"!(a||b)", "!(a || b)"},
		{"-a+b", "-a + b"}, {"a+(-b)", "a + -b"}, {"a- -b", "a - -b"}, {"(-a)*(-b)", "-a * -b"}, {"a==(!b)", "a == !b"},
		{"a[b]", "a[b]"}, {"a[(b)]", "a[b]"}, {"a[-b]", "a[-b]"}, {"a[b||c]", "a[b || c]"}, {"(a+b)[c+d]", "(a + b)[c + d]"}, {"(!a).b", "(!a).b"}, {"(a||b).c", "(a || b).c"}, {"(a.b)[c]", "a.b[c]"}, {"(a[b])[c]", "a[b][c]"}, {"(a[b]).c", "a[b].c"},
		{"1[0]", "1[0]"}, {"1 .k", "1.k"}, {`"ab"[0]`, `"ab"[0]`}, {"[1][0]", "[1][0]"}, {"{a:1}.a", "{a: 1}.a"}, {"f().a", "f().a"}, {"unit.a", "unit.a"}, {"(-a[0])[1]", "(-a[0])[1]"},
		{"(a*b)*c", "a * b * c"}, {"a*(b*c)", "a * (b * c)"}, {"a/(b%c)", "a / (b % c)"}, {"(a/b)%c", "a / b % c"}, {"a-(b+c)", "a - (b + c)"}, {"(a-b)+c", "a - b + c"}, {"a+(b*c)", "a + b * c"}, {"(a+b)*c", "(a + b) * c"}, {"a*(b+c)", "a * (b + c)"},
		{"(a&&b)&&c", "a && b && c"}, {"a&&(b&&c)", "a && (b && c)"}, {"(a||b)||c", "a || b || c"}, {"a||(b||c)", "a || (b || c)"}, {"a||(b&&c)", "a || b && c"}, {"(a||b)&&c", "(a || b) && c"}, {"a&&(b||c)", "a && (b || c)"},
		{"(a<b)<c", "(a < b) < c"}, {"a<(b<c)", "a < (b < c)"}, {"(a==b)!=(c>=d)", "(a == b) != (c >= d)"}, {"(a<b)&&(c<d)", "a < b && c < d"}, {"(a+b)<(c-d)", "a + b < c - d"}, {"(a&&b)<c", "(a && b) < c"}, {"(a<b)+c", "(a < b) + c"}, {"a+(b<c)", "a + (b < c)"},
	} {
		text(t, row[0], row[1])
	}
}

func TestP182Programs(t *testing.T) {
	if s, e := print.Program(api.Node{Kind: api.Program}); s != "" || e != api.OK || !print.Right(api.Node{Kind: api.Program}) {
		t.Errorf("no functions are %q, %v", s, e)
	}
	lines(t, `fn f(){}`, "fn f() {", "}")
	lines(t, `export fn f(a){}`, "export fn f(a) {", "}")
	lines(t, `fn f(a,b,c){}fn g(){}fn f(){}`, "fn f(a, b, c) {", "}", "", "fn g() {", "}", "", "fn f() {", "}")
	lines(t, `fn f(){a;}export fn g(){b;}`, "fn f() {", "\ta;", "}", "", "export fn g() {", "\tb;", "}")
}

func TestP182Statements(t *testing.T) {
	inner := func(source string, want ...string) {
		t.Helper()
		l := []string{"fn f() {"}
		for _, line := range want {
			l = append(l, "\t"+line)
		}
		lines(t, "fn f(){"+source+"}", append(l, "}")...)
	}
	inner("let a;", "let a;")
	inner("let a=1;", "let a = 1;")
	inner("let a=(b==c);let b=-1;", "let a = b == c;", "let b = -1;")
	inner("a=1;b=(c);", "a = 1;", "b = c;")
	inner("a;(a);a==1;", "a;", "a;", "a == 1;")
	inner("{};{a:1}.a;[1];(a)+b;", "{};", "{a: 1}.a;", "[1];", "a + b;")
	inner("return;", "return;")
	inner("return(1);return-1;", "return 1;", "return -1;")
	inner("break;continue;", "break;", "continue;")
	inner("if((a)){}", "if (a) {", "}")
	inner("if(a){b;}", "if (a) {", "\tb;", "}")
	inner("if(a){}else{}", "if (a) {", "} else {", "}")
	inner("if(a||b){c;}else{d;e;}f();", "if (a || b) {", "\tc;", "} else {", "\td;", "\te;", "}", "f();")
	inner("if(a){}else{if(b){}}", "if (a) {", "} else {", "\tif (b) {", "\t}", "}")
	inner("if(a){b;}else if(c){d;}else if(e){}", "if (a) {", "\tb;", "} else if (c) {", "\td;", "} else if (e) {", "}")
	inner("if(a){if(b){c;}else{d;}}else{e;}", "if (a) {", "\tif (b) {", "\t\tc;", "\t} else {", "\t\td;", "\t}", "} else {", "\te;", "}")
	inner("while(a){}", "while (a) {", "}")
	inner("while(a<b){while(c){break;}continue;}", "while (a < b) {", "\twhile (c) {", "\t\tbreak;", "\t}", "\tcontinue;", "}")
	inner("if(a){while(b){if(c){let d;}}}", "if (a) {", "\twhile (b) {", "\t\tif (c) {", "\t\t\tlet d;", "\t\t}", "\t}", "}")
}

// forms is one of each form about one, or two, expressions.
func forms(one, two api.Node) []api.Node {
	l := []api.Node{
		named("a"), number(0), node(api.Unary, "-", one), node(api.Unary, "!", one), node(api.At, "", one, two), node(api.Dot, "k", one),
		node(api.Call, "f", one, two), node(api.List, "", one, two), node(api.Fields, "", node(api.Pair, "a", one), node(api.Pair, "fn", two)),
	}
	for _, sign := range signs {
		l = append(l, node(api.Binary, sign, one, two))
	}
	return l
}

// faces holds what the calls tell of a tree against the model, and reads its text again.
func faces(t *testing.T, start string, n api.Node) {
	t.Helper()
	want := says(start, n)
	if isRight(t, start, n) != want {
		t.Fatalf("%s: %s: want right %t", start, brief(n), want)
	}
	if !want {
		return
	}
	put, read := print.Expr, parse.Expr
	if start == "program" {
		put, read = print.Program, parse.Program
	}
	s, _ := put(n)
	if s != model(start, n) {
		t.Fatalf("%s is %q, want %q", brief(n), s, model(start, n))
	}
	m, _, e := read(s)
	if e != api.OK || !print.Same(n, m) || !print.Same(m, n) {
		t.Fatalf("%q, read again, is %s, %v, not %s", s, brief(m), e, brief(n))
	}
	if again, e := put(m); again != s || e != api.OK {
		t.Fatalf("%q, read and printed again, is %q, %v", s, again, e)
	}
}

// Each form of each two forms.
func TestP182EachFormInEach(t *testing.T) {
	inner := forms(named("b"), named("c"))
	for _, one := range inner {
		for _, two := range inner {
			for _, n := range forms(one, two) {
				faces(t, "expr", n)
			}
		}
	}
}

// onlyBrackets are the places of each pair of brackets that is none of a Call.
func onlyBrackets(s string) [][2]int {
	l, _, _ := lex.All(s)
	var open []int
	var out [][2]int
	for i, token := range l {
		switch {
		case token.Kind != api.TokSign:
		case token.Text == "(":
			at := token.At
			if i > 0 && l[i-1].Kind == api.TokName {
				at = -1
			}
			open = append(open, at)
		case token.Text == ")":
			if at := open[len(open)-1]; at >= 0 {
				out = append(out, [2]int{at, token.At})
			}
			open = open[:len(open)-1]
		}
	}
	return out
}

// No pair of brackets could be left out: something else would be said.
func TestP182NoBracketsTooMany(t *testing.T) {
	dice := rand.New(rand.NewSource(1801))
	seen := 0
	for range 20000 {
		n := grown(dice, "expr", 1+dice.Intn(5))
		s, e := print.Expr(n)
		if e != api.OK || len(s) > api.MaxSource {
			continue
		}
		for _, pair := range onlyBrackets(s) {
			seen++
			less := s[:pair[0]] + " " + s[pair[0]+1:pair[1]] + " " + s[pair[1]+1:]
			if m, _, e := parse.Expr(less); e == api.OK && show(m) == show(n) {
				t.Fatalf("%q has brackets that say nothing: %q", s, less)
			}
		}
	}
	if seen < 10000 {
		t.Errorf("only %d brackets were looked at", seen)
	}
}

// grower makes random trees.
type grower struct {
	dice *rand.Rand
	room int
}

func (g *grower) pick(l ...string) string { return l[g.dice.Intn(len(l))] }

func (g *grower) name() string {
	return g.pick("a", "b", "_", "f", "Fn", "len", "x1", "zzzzzzzzzzzzzzzzzzzz")
}

func (g *grower) value() api.Value {
	switch g.dice.Intn(6) {
	case 0:
		return api.Value{}
	case 1:
		return api.Value{Kind: api.Bool, N: int64(g.dice.Intn(2))}
	case 2:
		return api.Value{Kind: api.Bytes, S: g.pick("", "a", "fn", "\"\\", "\x00\xff\n", "//", ");", many("q", 40))}
	case 3:
		return api.Value{Kind: api.Int, N: g.dice.Int63()}
	}
	return api.Value{Kind: api.Int, N: int64(g.dice.Intn(3))}
}

func (g *grower) exprs(depth, count int) []api.Node {
	l := make([]api.Node, 0, count+g.dice.Intn(2))
	for range count {
		l = append(l, g.expr(depth-1))
	}
	return l
}

func (g *grower) expr(depth int) api.Node {
	g.room--
	kind := g.dice.Intn(12)
	if depth <= 0 || g.room <= 0 {
		kind = g.dice.Intn(2)
	}
	n := api.Node{At: g.dice.Intn(100)}
	switch kind {
	case 0:
		n.Kind, n.Text = api.Name, g.name()
	case 1:
		n.Kind, n.Val = api.Lit, g.value()
	case 2, 3, 4, 5:
		n.Kind, n.Text, n.Kids = api.Binary, signs[g.dice.Intn(len(signs))], g.exprs(depth, 2)
	case 6, 7:
		n.Kind, n.Text, n.Kids = api.Unary, g.pick("-", "!"), g.exprs(depth, 1)
	case 8:
		n.Kind, n.Kids = api.At, g.exprs(depth, 2)
	case 9:
		n.Kind, n.Text, n.Kids = api.Dot, g.name(), g.exprs(depth, 1)
	case 10:
		n.Kind, n.Text, n.Kids = api.Call, g.name(), g.exprs(depth, g.dice.Intn(4))
	case 11:
		n.Kind, n.Kids = api.List, g.exprs(depth, g.dice.Intn(4))
		if g.dice.Intn(2) == 0 {
			n.Kind = api.Fields
			for i, x := range n.Kids {
				n.Kids[i] = node(api.Pair, g.pick("a", "if", "", "x y", "1", "\xff", many("k", 20), many("k", 21), many("k", 32)), x)
			}
		}
	}
	return n
}

func (g *grower) block(depth int) api.Node {
	n := api.Node{Kind: api.Block, At: g.dice.Intn(100)}
	for range g.dice.Intn(4) {
		n.Kids = append(n.Kids, g.statement(depth))
	}
	return n
}

func (g *grower) statement(depth int) api.Node {
	g.room--
	kinds := []int{api.Let, api.Set, api.Do, api.Return, api.Break, api.Continue, api.If, api.While}
	if depth <= 0 || g.room <= 0 {
		kinds = kinds[:6]
	}
	n := api.Node{Kind: kinds[g.dice.Intn(len(kinds))]}
	switch n.Kind {
	case api.Let:
		n.Text, n.Kids = g.name(), g.exprs(depth, g.dice.Intn(2))
	case api.Set:
		n.Text, n.Kids = g.name(), g.exprs(depth, 1)
	case api.Do:
		n.Kids = g.exprs(depth, 1)
	case api.Return:
		n.Kids = g.exprs(depth, g.dice.Intn(2))
	case api.If:
		return g.choice(depth)
	case api.While:
		n.Kids = []api.Node{g.expr(depth - 1), g.block(depth - 1)}
	}
	return n
}

func (g *grower) choice(depth int) api.Node {
	n := api.Node{Kind: api.If, Kids: []api.Node{g.expr(depth - 1), g.block(depth - 1)}}
	switch g.dice.Intn(3) {
	case 0:
		n.Kids = append(n.Kids, g.block(depth-1))
	case 1:
		n.Kids = append(n.Kids, g.choice(depth-1))
	}
	return n
}

func (g *grower) program(depth int) api.Node {
	n := api.Node{Kind: api.Program}
	for range g.dice.Intn(4) {
		f := api.Node{Kind: api.Fn, Text: g.name(), Flag: g.dice.Intn(2) == 0}
		for range g.dice.Intn(4) {
			f.Kids = append(f.Kids, node(api.Param, g.name()))
		}
		f.Kids = append(f.Kids, g.block(depth))
		n.Kids = append(n.Kids, f)
	}
	return n
}

// grown is a random tree, right but for its depth, whose text is no longer than a source may be.
func grown(dice *rand.Rand, start string, depth int) api.Node {
	for {
		g := &grower{dice: dice, room: dice.Intn(150)}
		n := api.Node{}
		if start == "program" {
			n = g.program(depth)
		} else {
			n = g.expr(depth)
		}
		if len(model(start, n)) <= api.MaxSource {
			return n
		}
	}
}

var starts = []string{"expr", "program"}

func TestP181Grown(t *testing.T) {
	dice := rand.New(rand.NewSource(1802))
	for _, start := range starts {
		for i := range 10000 {
			faces(t, start, grown(dice, start, i%8))
		}
	}
}

// Trees about as deep as they may be, some of them too deep.
func TestP181GrownDeep(t *testing.T) {
	dice := rand.New(rand.NewSource(1803))
	for _, start := range starts {
		taken, refused := 0, 0
		for i := 0; taken < 500 || refused < 500; i++ {
			if i == 40000 {
				t.Fatalf("%s: %d taken, %d refused", start, taken, refused)
			}
			n := deepened(dice, start)
			faces(t, start, n)
			if isRight(t, start, n) {
				taken++
			} else {
				refused++
			}
		}
	}
}

// deepened is a long way down through random forms.
func deepened(dice *rand.Rand, start string) api.Node {
	g := &grower{dice: dice}
	n := g.expr(0)
	for range 15 + dice.Intn(20) {
		b := named("b")
		switch dice.Intn(9) {
		case 0:
			n = node(api.Dot, "k", n)
		case 1, 2:
			n = node(api.Unary, g.pick("-", "!"), n)
		case 3:
			n = forms(n, b)[4+dice.Intn(5)] // an At, a Dot, or a list of some kind
		case 4:
			n = []api.Node{node(api.At, "", b, n), node(api.Call, "f", b, n), node(api.List, "", b, n)}[dice.Intn(3)]
		case 5, 6:
			n = node(api.Binary, signs[dice.Intn(len(signs))], n, b)
		case 7, 8:
			n = node(api.Binary, signs[dice.Intn(len(signs))], b, n)
		}
	}
	if start == "expr" {
		return n
	}
	s := do(n)
	for range dice.Intn(6) {
		switch dice.Intn(3) {
		case 0:
			s = node(api.While, "", named("a"), block(s))
		case 1:
			s = node(api.If, "", named("a"), block(), block(s))
		case 2:
			s = node(api.If, "", named("a"), block(), node(api.If, "", named("b"), block(s)))
		}
	}
	return program(s)
}

// samples is a right node of each kind, of no Kids where that may be.
func samples() []api.Node {
	a := named("a")
	pair := node(api.Pair, "k", a)
	return []api.Node{
		{}, {Kind: api.Program}, fn(), node(api.Param, "a"), block(), node(api.Let, "a"), node(api.Set, "a", a),
		node(api.If, "", a, block()), node(api.While, "", a, block()), node(api.Return, ""), node(api.Break, ""), node(api.Continue, ""), do(a),
		number(1), a, node(api.Call, "f"), negated(a), node(api.Binary, "+", a, a), node(api.List, ""), node(api.Fields, "", pair), pair,
		node(api.At, "", a, a), node(api.Dot, "k", a), {Kind: api.Dot + 1}, {Kind: -1},
	}
}

func isStatement(kind int) bool { return kind >= api.Let && kind <= api.Do }

// placed is the smallest tree in which a node stands where its kind may, and what that tree is asked as.
func placed(n api.Node) (string, api.Node) {
	switch {
	case n.Kind == api.Program:
		return "program", n
	case n.Kind == api.Fn:
		return "program", node(api.Program, "", n)
	case n.Kind == api.Param:
		return "program", node(api.Program, "", node(api.Fn, "f", n, block()))
	case n.Kind == api.Block:
		return "program", node(api.Program, "", node(api.Fn, "f", n))
	case isStatement(n.Kind):
		return "program", program(n)
	case n.Kind == api.Pair:
		return "expr", node(api.Fields, "", n)
	}
	return "expr", n
}

// Each kind with all Kids, up to three, of all kinds.
func TestP181EachKindsKids(t *testing.T) {
	all := samples()
	right := map[int]int{}
	look := func(n api.Node) {
		start, whole := placed(n)
		faces(t, start, whole)
		if isRight(t, start, whole) {
			right[n.Kind]++
		}
	}
	for _, n := range all {
		n.Kids = nil
		look(n)
		for _, x := range all {
			n.Kids = []api.Node{x}
			look(n)
			for _, y := range all {
				n.Kids = []api.Node{x, y}
				look(n)
				for _, z := range all {
					n.Kids = []api.Node{x, y, z}
					look(n)
				}
			}
		}
	}
	for kind := api.Program; kind <= api.Dot; kind++ {
		if right[kind] == 0 {
			t.Errorf("no right node of kind %d", kind)
		}
	}
	// How many of these the rows allow: 9 kinds of expressions, 8 of statements.
	for kind, want := range map[int]int{
		api.Program: 4, api.Fn: 3, api.Block: 1 + 8 + 8*8 + 8*8*8, api.Let: 10, api.Return: 10, api.Set: 9, api.Do: 9, api.If: 9 + 9*2, api.While: 9, api.Break: 1,
		api.Call: 1 + 9 + 81 + 729, api.List: 1 + 9 + 81 + 729, api.Fields: 4, api.Pair: 9, api.Binary: 81, api.At: 81, api.Unary: 9, api.Dot: 9, api.Lit: 1, api.Name: 1, api.Param: 1, api.Continue: 1,
	} {
		if right[kind] != want {
			t.Errorf("of kind %d %d are right, want %d", kind, right[kind], want)
		}
	}
}

// Each node stands, too, where its kind may not, and as what is asked.
func TestP181EachKindAsAWhole(t *testing.T) {
	for _, n := range samples() {
		for _, start := range starts {
			faces(t, start, n)
		}
		if print.Right(n) != (n.Kind == api.Program) {
			t.Errorf("Right of kind %d is %t", n.Kind, print.Right(n))
		}
	}
}

func TestP181Kinds(t *testing.T) {
	for _, kind := range []int{0, -1, 23, 24, 255, 256 + api.Name, 1 << 32, 1<<32 + api.Name, math.MaxInt, math.MinInt} {
		n := named("a")
		n.Kind = kind
		as(t, n, false)
		n.Text = ""
		as(t, n, false)
		for _, start := range starts {
			if isRight(t, start, n) {
				t.Errorf("%s of kind %d is taken", start, kind)
			}
		}
	}
}

// Each kind with each Text: names, keywords, signs, keys.
func TestP181Texts(t *testing.T) {
	texts := append(slices.Clone(signs), "", "a", "_", "a1", "1a", "Fn", "fn", "export", "let", "if", "else", "while", "return", "break", "continue", "true", "false", "unit",
		many("z", 20), many("z", 21), many("z", 32), many("z", 33), many("\xff", 32), many("\xff", 33), "!", "=", "&", "|", "===", "--", "!!", "- ", " -", "+-", "a b", "a ", " a", "a.b", "a()", "(a)", "a//", "a\n", "é", "a\x00", "\"a\"", "(", ")", "{", "}", ";", ",", "a=b", "a;b", "1", many("a", 70000))
	for _, n := range samples() {
		for _, s := range texts {
			n.Text = s
			start, whole := placed(n)
			if len(s) > 10000 {
				if isRight(t, start, whole) {
					t.Errorf("kind %d with a long Text is taken", n.Kind)
				}
				continue
			}
			faces(t, start, whole)
		}
	}
	key := func(s string) api.Node { return node(api.Fields, "", node(api.Pair, s, number(1))) }
	for s, want := range map[string]string{
		"": `{"": 1}`, "a": "{a: 1}", "_": "{_: 1}", "1": `{"1": 1}`, "let": `{"let": 1}`, "unit": `{"unit": 1}`, "Let": "{Let: 1}", "a\"\\\n\x80": `{"a\"\\\x0a\x80": 1}`,
		many("z", 20): "{" + many("z", 20) + ": 1}", many("z", 21): `{"` + many("z", 21) + `": 1}`, many("\x00", 32): `{"` + many(`\x00`, 32) + `": 1}`,
	} {
		if got, e := print.Expr(key(s)); got != want || e != api.OK {
			t.Errorf("the key %q: %s, %v, want %s", s, got, e, want)
		}
	}
	as(t, key(many("z", 33)), false)
}

// A Flag is a Fn's alone, a Val a Lit's.
func TestP181FlagsAndVals(t *testing.T) {
	vals := []api.Value{
		{Kind: api.Bool}, {Kind: api.Bool, N: 1}, {Kind: api.Bool, N: 2}, {Kind: api.Bool, N: -1}, {Kind: api.Int}, {Kind: api.Int, N: 1}, {Kind: api.Int, N: math.MaxInt64}, {Kind: api.Int, N: -1}, {Kind: api.Int, N: math.MinInt64},
		{Kind: api.Bytes}, {Kind: api.Bytes, S: "a"}, {Kind: api.Bytes, S: many("a", 2047)}, {Kind: api.Bytes, S: many("a", 2048)}, {N: 1}, {N: -1}, {S: "a"}, {L: []api.Value{{}}}, {K: []string{"a"}}, {K: []string{""}},
		{Kind: api.Int, S: "a"}, {Kind: api.Int, L: []api.Value{{}}}, {Kind: api.Int, K: []string{""}}, {Kind: api.Bool, S: "a"}, {Kind: api.Bool, L: []api.Value{{}}}, {Kind: api.Bool, K: []string{""}}, {Kind: api.Bytes, N: 1}, {Kind: api.Bytes, L: []api.Value{{}}}, {Kind: api.Bytes, K: []string{""}},
		{Kind: api.Array}, {Kind: api.Array, L: []api.Value{{}}}, {Kind: api.Record}, {Kind: api.Record, L: []api.Value{{}}, K: []string{"a"}}, {Kind: 6}, {Kind: -1}, {Kind: 1 << 32}, {Kind: 1<<32 + api.Int},
		{}, {L: []api.Value{}}, {K: []string{}}, {Kind: api.Int, N: 7, L: []api.Value{}, K: []string{}}, {Kind: api.Bytes, S: "b", L: []api.Value{}, K: make([]string, 0, 4)}, {Kind: api.Bool, L: []api.Value{}, K: []string{}},
	}
	for _, n := range samples() {
		flagged := n
		flagged.Flag = true
		start, whole := placed(flagged)
		faces(t, start, whole)
		for _, v := range vals {
			n.Val = v
			start, whole := placed(n)
			faces(t, start, whole)
		}
	}
	for i, v := range vals {
		want := value.Right(v) && v.Kind != api.Array && v.Kind != api.Record && !(v.Kind == api.Int && v.N < 0)
		as(t, lit(v), want)
		if s, _ := print.Expr(lit(v)); want && s != value.Print(v) {
			t.Errorf("the value %d is %.80q", i, s)
		}
	}
	as(t, bytes(many("\x00", 2047)), true)
	as(t, bytes(many("\x00", 2048)), false)
	if s, e := print.Expr(bytes(many("\x00", 2047))); s != `"`+many(`\x00`, 2047)+`"` || e != api.OK {
		t.Errorf("the most bytes: %.80q, %v", s, e)
	}
}

// spoilt is a tree in new memory with one node changed somehow.
func spoilt(dice *rand.Rand, n api.Node) api.Node {
	n = copied(n)
	nodes := inner(&n)
	x := nodes[dice.Intn(len(nodes))]
	all := samples()
	switch dice.Intn(9) {
	case 0:
		x.Kind = dice.Intn(25) - 1
	case 1:
		x.Text = []string{"", "a", "-", "+", "!", "if", "a b", "==", "&", many("z", 21), many("z", 33)}[dice.Intn(11)]
	case 2:
		x.Flag = !x.Flag
	case 3:
		x.Val = []api.Value{{}, {Kind: api.Int, N: -1}, {Kind: api.Int, N: 1}, {Kind: api.Array}, {Kind: api.Bytes, N: 1}, {K: []string{"a"}}}[dice.Intn(6)]
	case 4:
		if len(x.Kids) > 0 {
			x.Kids = x.Kids[:len(x.Kids)-1]
		}
	case 5:
		x.Kids = slices.Insert(x.Kids, dice.Intn(len(x.Kids)+1), all[dice.Intn(len(all))])
	case 6:
		if len(x.Kids) > 1 {
			x.Kids[0], x.Kids[len(x.Kids)-1] = x.Kids[len(x.Kids)-1], x.Kids[0]
		}
	case 7:
		*x = all[dice.Intn(len(all))]
	case 8:
		*x = copied(*nodes[dice.Intn(len(nodes))])
	}
	return n
}

// inner are a tree's nodes.
func inner(n *api.Node) []*api.Node {
	l := []*api.Node{n}
	for i := range n.Kids {
		l = append(l, inner(&n.Kids[i])...)
	}
	return l
}

func copied(n api.Node) api.Node {
	n.Text = strings.Clone(n.Text)
	n.Val = copiedValue(n.Val)
	kids := make([]api.Node, 0, len(n.Kids))
	for _, x := range n.Kids {
		kids = append(kids, copied(x))
	}
	n.Kids = kids
	return n
}

func copiedValue(v api.Value) api.Value {
	v.S, v.K = strings.Clone(v.S), slices.Clone(v.K)
	l := make([]api.Value, 0, len(v.L))
	for _, x := range v.L {
		l = append(l, copiedValue(x))
	}
	v.L = l
	return v
}

func TestP181Spoilt(t *testing.T) {
	dice := rand.New(rand.NewSource(1804))
	for _, start := range starts {
		taken, refused := 0, 0
		for i := range 15000 {
			n := grown(dice, start, 1+i%6)
			for range 1 + dice.Intn(2) {
				n = spoilt(dice, n)
			}
			if len(model(start, n)) > api.MaxSource {
				continue
			}
			faces(t, start, n)
			if isRight(t, start, n) {
				taken++
			} else {
				refused++
			}
		}
		if taken < 1000 || refused < 1000 {
			t.Errorf("%s: %d taken, %d refused", start, taken, refused)
		}
	}
}

// What counts as open, each by itself again and again: up to 24 are taken, in a Block one less.
func TestP181Deep(t *testing.T) {
	a := named("a")
	for word, about := range map[string]func(api.Node) api.Node{
		"-":        negated,
		"!":        func(n api.Node) api.Node { return node(api.Unary, "!", n) },
		"call":     func(n api.Node) api.Node { return node(api.Call, "f", n) },
		"argument": func(n api.Node) api.Node { return node(api.Call, "f", a, n, a) },
		"list":     func(n api.Node) api.Node { return node(api.List, "", n) },
		"element":  func(n api.Node) api.Node { return node(api.List, "", a, n) },
		"fields":   func(n api.Node) api.Node { return node(api.Fields, "", node(api.Pair, "k", n)) },
		"at":       func(n api.Node) api.Node { return node(api.At, "", a, n) },
		"left":     func(n api.Node) api.Node { return node(api.Binary, "*", node(api.Binary, "+", n, a), a) },
		"right":    func(n api.Node) api.Node { return node(api.Binary, "-", a, node(api.Binary, "-", a, n)) },
		"compare":  func(n api.Node) api.Node { return node(api.Binary, "<", node(api.Binary, "<", a, n), a) },
	} {
		for times := range 40 {
			n := wrapped(a, times, about)
			open := opened(n)
			if open < times || !strings.Contains("left right compare", word) && open != times {
				t.Fatalf("%s: %d times open %d", word, times, open)
			}
			as(t, n, open <= 24)
			if got := isRight(t, "program", program(do(n))); got != (open+1 <= 24) {
				t.Errorf("%s: %d times in a Block is %t", word, times, got)
			}
			faces(t, "expr", n)
		}
	}
}

// opened is how many are open at most, by the tokens of what the model writes: a Unary is so up to where what it
// signs must end.
func opened(n api.Node) int {
	s := model("expr", n)
	l, _, _ := lex.All(s)
	most := 0
	var open []string
	sign := func(i int) bool {
		if l[i].Text == "!" {
			return true
		}
		return l[i].Text == "-" && (i == 0 || l[i-1].Kind == api.TokSign && !strings.Contains(")]}", l[i-1].Text))
	}
	drop := func() {
		for len(open) > 0 && open[len(open)-1] == "sign" {
			open = open[:len(open)-1]
		}
	}
	for i, token := range l {
		switch {
		case token.Kind != api.TokSign:
		case sign(i):
			open = append(open, "sign")
		case strings.Contains("([{", token.Text):
			open = append(open, token.Text)
		case strings.Contains(")]}", token.Text):
			drop()
			open = open[:len(open)-1]
		case token.Text != "." && token.Text != ":":
			drop()
		}
		most = max(most, len(open))
	}
	return most
}

// Without Kids, too, brackets are open.
func TestP181DeepEmpty(t *testing.T) {
	for _, n := range []api.Node{node(api.Call, "f"), node(api.List, ""), node(api.Fields, "")} {
		as(t, wrapped(n, 23, negated), true)
		as(t, wrapped(n, 24, negated), false)
	}
	nested := func(times int) api.Node {
		return wrapped(block(), times, func(n api.Node) api.Node { return block(node(api.While, "", named("a"), n)) })
	}
	for times, want := range map[int]bool{0: true, 22: true, 23: true, 24: false, 25: false} {
		n := node(api.Program, "", node(api.Fn, "f", nested(times)))
		if isRight(t, "program", n) != want {
			t.Errorf("%d Blocks: want right %t", times+1, want)
		}
		faces(t, "program", n)
	}
	most, _ := print.Program(node(api.Program, "", node(api.Fn, "f", nested(23))))
	if !strings.Contains(most, "\n"+many("\t", 23)+"while (a) {\n"+many("\t", 23)+"}\n"+many("\t", 22)+"}\n") {
		t.Errorf("24 Blocks are %q", most)
	}
}

// What is not open, however often it stands, or is open one behind the other.
func TestP181NotOpen(t *testing.T) {
	a := named("a")
	for word, about := range map[string]func(api.Node) api.Node{
		"dot":      func(n api.Node) api.Node { return node(api.Dot, "k", n) },
		"at":       func(n api.Node) api.Node { return node(api.At, "", n, number(0)) },
		"or":       func(n api.Node) api.Node { return node(api.Binary, "||", n, a) },
		"and":      func(n api.Node) api.Node { return node(api.Binary, "&&", n, negated(a)) },
		"sum":      func(n api.Node) api.Node { return node(api.Binary, "-", n, node(api.Call, "f")) },
		"product":  func(n api.Node) api.Node { return node(api.Binary, "%", n, a) },
		"call":     func(n api.Node) api.Node { return node(api.Binary, "+", n, node(api.Call, "f", node(api.List, "", a))) },
		"brackets": func(n api.Node) api.Node { return node(api.Binary, "+", n, node(api.Binary, "+", a, a)) },
	} {
		n := wrapped(a, 300, about)
		as(t, n, true)
		faces(t, "expr", n)
		as(t, wrapped(a, 4000, about), true)
		signed := wrapped(n, 25, negated)
		as(t, signed, false)
		if !isRight(t, "program", program(node(api.If, "", n, block(), block(do(n))))) {
			t.Errorf("%s: refused in an If", word)
		}
	}
	// The brackets of a Fn, an If and a While do not count.
	deep := wrapped(a, 23, negated)
	for _, s := range []api.Node{node(api.If, "", deep, block()), node(api.While, "", deep, block()), node(api.Return, "", deep), node(api.Let, "a", deep), node(api.Set, "a", deep), do(deep)} {
		n := program(s)
		n.Kids[0].Kids = slices.Insert(n.Kids[0].Kids, 0, node(api.Param, "a"))
		faces(t, "program", n)
		if !isRight(t, "program", n) {
			t.Errorf("%s: refused", brief(n))
		}
		s.Kids[0] = negated(deep)
		faces(t, "program", program(s))
		if isRight(t, "program", program(s)) {
			t.Errorf("%s: taken", brief(s))
		}
	}
	// An else is open beside what stands ahead of it, an If behind it is no Block of its own.
	chain := wrapped(node(api.If, "", a, block()), 300, func(n api.Node) api.Node { return node(api.If, "", a, block(), n) })
	faces(t, "program", program(chain))
	if !isRight(t, "program", program(chain)) {
		t.Errorf("a long row of else if is refused")
	}
	wide := program()
	for range 300 {
		wide.Kids = append(wide.Kids, fn(node(api.While, "", a, block(do(a)))))
	}
	if !isRight(t, "program", wide) {
		t.Errorf("many Blocks, one behind the other, are refused")
	}
}

// An At's first Kid stands ahead of its bracket, its second within; brackets about a Kid count where they stand.
func TestP181DeepPlaces(t *testing.T) {
	a := named("a")
	deep := func(times int) api.Node { return wrapped(a, times, negated) }
	for times := 20; times <= 26; times++ {
		for _, n := range []api.Node{
			node(api.At, "", deep(times), a), node(api.At, "", a, deep(times)), node(api.At, "", node(api.Dot, "k", deep(times)), a), node(api.Dot, "k", deep(times)),
			node(api.At, "", node(api.List, "", deep(times)), a), node(api.At, "", node(api.At, "", a, deep(times)), deep(times)),
			node(api.Binary, "+", deep(times), a), node(api.Binary, "+", a, deep(times)), node(api.Binary, "*", node(api.Binary, "+", a, deep(times)), a),
			node(api.Binary, "+", node(api.Binary, "*", a, deep(times)), a), node(api.Binary, "+", a, node(api.Binary, "*", a, deep(times))), node(api.Binary, "+", a, node(api.Binary, "-", deep(times), a)),
			negated(node(api.Binary, "+", a, deep(times))), negated(node(api.At, "", a, deep(times))), negated(node(api.Dot, "k", deep(times))),
			node(api.Call, "f", a, deep(times)), node(api.Fields, "", node(api.Pair, "k", a), node(api.Pair, "l", deep(times))),
			node(api.Binary, "<", node(api.Binary, "==", deep(times), a), a), node(api.Binary, "<", a, node(api.Binary, "==", a, deep(times))), node(api.Binary, "&&", a, node(api.Binary, "<", a, deep(times))),
		} {
			faces(t, "expr", n)
			faces(t, "program", program(do(n)))
			faces(t, "program", program(node(api.If, "", n, block(), block(do(n)))))
		}
	}
}

// flat is a List of so many parts, itself too.
func flat(parts int) api.Node {
	n := node(api.List, "")
	for range parts - 1 {
		n.Kids = append(n.Kids, named("a"))
	}
	return n
}

// As many parts as may be, in each shape; and one more.
func TestP181Parts(t *testing.T) {
	a := named("a")
	of := map[string]func(parts int) api.Node{
		"list": flat,
		"dots": func(parts int) api.Node {
			return wrapped(a, parts-1, func(n api.Node) api.Node { return node(api.Dot, "k", n) })
		},
		"sums": func(parts int) api.Node {
			// Two parts more each; one, if need be, by a sign.
			n := wrapped(a, (parts-1)/2, func(n api.Node) api.Node { return node(api.Binary, "+", n, a) })
			if parts%2 == 0 {
				n = node(api.Dot, "k", n)
			}
			return n
		},
		"two lists": func(parts int) api.Node {
			return node(api.Call, "f", flat(parts/2), flat(parts-1-parts/2))
		},
	}
	for word, make := range of {
		for parts, want := range map[int]bool{1: true, 2: true, 19999: true, 20000: true, 20001: false, 20002: false, 60000: false} {
			if word == "two lists" && parts < 3 {
				continue
			}
			n := make(parts)
			if isRight(t, "expr", n) != want {
				t.Errorf("%s of %d parts: want right %t", word, parts, want)
			}
			if print.Same(n, n) != want {
				t.Errorf("%s of %d parts: want it the same %t", word, parts, want)
			}
			if s, _ := print.Expr(n); want && strings.Contains(word, "list") && s != model("expr", n) {
				t.Errorf("%s of %d parts is %.80q", word, parts, s)
			}
			// Program, Fn, Block, Do are four more.
			if got := isRight(t, "program", program(do(n))); got != (parts <= 19996) {
				t.Errorf("%s of %d parts in a program is %t", word, parts, got)
			}
		}
		for parts, want := range map[int]bool{19995: true, 19996: true, 19997: false} {
			if isRight(t, "program", program(do(make(parts)))) != want {
				t.Errorf("%s of %d parts in a program: want right %t", word, parts, want)
			}
		}
	}
}

// Deep ones are printed whole.
func TestP182LongTexts(t *testing.T) {
	a := named("a")
	dots := wrapped(a, 19999, func(n api.Node) api.Node { return node(api.Dot, "k", n) })
	if s, e := print.Expr(dots); s != "a"+many(".k", 19999) || e != api.OK {
		t.Errorf("many Dots: %d bytes, %v", len(s), e)
	}
	sums := wrapped(a, 9999, func(n api.Node) api.Node { return node(api.Binary, "-", n, a) })
	if s, e := print.Expr(sums); s != "a"+many(" - a", 9999) || e != api.OK {
		t.Errorf("many sums: %d bytes, %v", len(s), e)
	}
	ats := wrapped(a, 9999, func(n api.Node) api.Node { return node(api.At, "", n, number(0)) })
	if s, e := print.Expr(ats); s != "a"+many("[0]", 9999) || e != api.OK {
		t.Errorf("many Ats: %d bytes, %v", len(s), e)
	}
	ifs := wrapped(node(api.If, "", a, block()), 6000, func(n api.Node) api.Node { return node(api.If, "", a, block(), n) })
	if s, e := print.Program(program(ifs)); s != "fn f() {\n\tif (a) {\n\t}"+many(" else if (a) {\n\t}", 6000)+"\n}\n" || e != api.OK {
		t.Errorf("many Ifs: %d bytes, %v", len(s), e)
	}
	params := node(api.Program, "", fn())
	for range 9000 {
		params.Kids[0].Kids = slices.Insert(params.Kids[0].Kids, 0, node(api.Param, "p"))
	}
	if s, e := print.Program(params); s != "fn f(p"+many(", p", 8999)+") {\n}\n" || e != api.OK {
		t.Errorf("many Params: %d bytes, %v", len(s), e)
	}
	heavy := node(api.List, "")
	for range 500 {
		heavy.Kids = append(heavy.Kids, bytes(many("\n", 2047)))
	}
	one := `"` + many(`\x0a`, 2047) + `"`
	if s, e := print.Expr(heavy); s != "["+one+many(", "+one, 499)+"]" || e != api.OK {
		t.Errorf("much: %d bytes, %v", len(s), e)
	}
}

func TestP183Same(t *testing.T) {
	a := func() api.Node {
		return api.Node{Kind: api.Binary, Text: "+", Flag: true, At: 3, Val: api.Value{Kind: api.Record, N: 5, S: "s", K: []string{"a", "b"}, L: []api.Value{{Kind: api.Int, N: 1}, {Kind: api.Array, L: []api.Value{{S: "x"}}}}},
			Kids: []api.Node{named("a"), node(api.List, "", number(1), number(2))}}
	}
	if !print.Same(a(), a()) || !print.Same(api.Node{}, api.Node{}) {
		t.Errorf("the same are not")
	}
	for i, change := range []func(n *api.Node){
		func(n *api.Node) { n.At = 99; n.Kids[0].At = -5; n.Kids[1].Kids[1].At = math.MinInt },
		func(n *api.Node) { n.Kids[0].Kids = []api.Node{}; n.Kids[0].Val.L = []api.Value{} },
		func(n *api.Node) { n.Kids[1].Kids[0].Val.K = []string{}; n.Val.L[0].L = make([]api.Value, 0, 3) },
		func(n *api.Node) { n.Val.L[1].L[0].K = make([]string, 0, 9); n.Kids = slices.Grow(n.Kids, 9) },
	} {
		b := a()
		change(&b)
		if !print.Same(a(), b) || !print.Same(b, a()) || !print.Same(b, b) {
			t.Errorf("%d: not the same: %s", i, show(b))
		}
	}
	for i, change := range []func(n *api.Node){
		func(n *api.Node) { n.Kind = api.At }, func(n *api.Node) { n.Kind += 256 }, func(n *api.Node) { n.Text = "-" }, func(n *api.Node) { n.Text = "" }, func(n *api.Node) { n.Text += "\x00" }, func(n *api.Node) { n.Flag = false },
		func(n *api.Node) { n.Val.Kind = api.Array }, func(n *api.Node) { n.Val.N = 6 }, func(n *api.Node) { n.Val.S = "t" }, func(n *api.Node) { n.Val.S = "" },
		func(n *api.Node) { n.Val.K[1] = "c" }, func(n *api.Node) { n.Val.K = n.Val.K[:1] }, func(n *api.Node) { n.Val.K = append(n.Val.K, "") }, func(n *api.Node) { n.Val.K = nil }, func(n *api.Node) { slices.Reverse(n.Val.K) },
		func(n *api.Node) { n.Val.L[0].N = 2 }, func(n *api.Node) { n.Val.L[0].Kind = api.Bool }, func(n *api.Node) { n.Val.L = n.Val.L[:1] }, func(n *api.Node) { n.Val.L = append(n.Val.L, api.Value{}) }, func(n *api.Node) { slices.Reverse(n.Val.L) }, func(n *api.Node) { n.Val.L = nil },
		func(n *api.Node) { n.Val.L[1].L[0].S = "y" }, func(n *api.Node) { n.Val.L[1].L[0].K = []string{""} }, func(n *api.Node) { n.Val.L[1].L = nil },
		func(n *api.Node) { n.Kids[0].Text = "b" }, func(n *api.Node) { n.Kids[0].Flag = true }, func(n *api.Node) { n.Kids[0].Val.N = 1 }, func(n *api.Node) { n.Kids = n.Kids[:1] }, func(n *api.Node) { n.Kids = nil }, func(n *api.Node) { n.Kids = append(n.Kids, api.Node{}) }, func(n *api.Node) { slices.Reverse(n.Kids) },
		func(n *api.Node) { n.Kids[1].Kids[1].Val.N = 3 }, func(n *api.Node) { n.Kids[1].Kids = n.Kids[1].Kids[:1] }, func(n *api.Node) { n.Kids[1].Kids[0].Kids = []api.Node{{}} },
	} {
		b := a()
		change(&b)
		if print.Same(a(), b) || print.Same(b, a()) {
			t.Errorf("%d: the same: %s", i, show(b))
		}
		if !print.Same(b, b) {
			t.Errorf("%d: not the same as itself: %s", i, show(b))
		}
	}
}

// Parts of values count, too, each as often as it stands.
func TestP183Parts(t *testing.T) {
	values := func(count int) api.Node {
		return api.Node{Val: api.Value{L: make([]api.Value, count)}}
	}
	nested := func(depth int) api.Node {
		v := api.Value{}
		for range depth {
			v = api.Value{Kind: api.Array, L: []api.Value{v}}
		}
		return lit(v)
	}
	shared := func(times int) api.Node { // 1 and for each 1 and 100
		l := make([]api.Value, 100)
		n := api.Node{Kind: api.Lit}
		for range times {
			n.Val.L = append(n.Val.L, api.Value{L: l})
		}
		return n
	}
	kids := func(count int) api.Node { // the first node's, and of each Kid it and its two
		n := api.Node{Kind: api.List}
		for range count {
			n.Kids = append(n.Kids, values(2))
		}
		return n
	}
	for i, row := range []struct {
		n    api.Node
		want bool
	}{
		{values(0), true}, {values(19998), true}, {values(19999), true}, {values(20000), false}, {values(20001), false}, {values(1000000), false},
		{nested(19998), true}, {nested(19999), true}, {nested(20000), false}, {nested(50000), false},
		{shared(198), true}, {shared(199), false}, {kids(6666), true}, {kids(6667), false},
		{node(api.List, "", values(9998), values(9999)), true}, {node(api.List, "", values(9999), values(9998)), true}, {node(api.List, "", values(9999), values(9999)), false},
		{node(0, "", flat(10000), values(9998)), true}, {node(0, "", flat(10000), values(9999)), false}, {node(0, "", flat(10001), values(9998)), false},
	} {
		m := row.n
		if i%2 == 0 {
			m = copied(row.n)
		}
		if got := print.Same(row.n, m); got != row.want {
			t.Errorf("%d: the same is %t", i, got)
		}
		if print.Same(row.n, api.Node{}) || print.Same(api.Node{}, row.n) {
			if i != 0 {
				t.Errorf("%d: the same as nothing", i)
			}
		}
		if isRight(t, "expr", row.n) || isRight(t, "program", row.n) {
			t.Errorf("%d: right", i)
		}
	}
	// Keys are no parts.
	keys := api.Node{Val: api.Value{K: make([]string, 100000)}}
	if !print.Same(keys, copied(keys)) {
		t.Errorf("many keys are not the same")
	}
}

// Random trees, right or not, and changed ones: the same just if all their fields are told alike.
func TestP183Random(t *testing.T) {
	dice := rand.New(rand.NewSource(1805))
	alike, unlike := 0, 0
	for i := range 20000 {
		n := grown(dice, starts[i%2], 1+i%5)
		if dice.Intn(2) == 0 {
			n = spoilt(dice, n)
		}
		m := copied(n)
		if dice.Intn(2) == 0 {
			m = spoilt(dice, n)
		}
		for _, x := range inner(&m) {
			x.At = dice.Intn(1000)
		}
		want := show(n) == show(m)
		if print.Same(n, m) != want || print.Same(m, n) != want {
			t.Fatalf("%s and %s: want %t", brief(n), brief(m), want)
		}
		if want {
			alike++
		} else {
			unlike++
		}
	}
	if alike < 5000 || unlike < 5000 {
		t.Errorf("%d alike, %d unlike", alike, unlike)
	}
}

// What parse tells is right, and is read again from its text, which is printed again as it is.
func TestFollowsParse(t *testing.T) {
	sources := []string{"", "fn f(){}", "export fn f(a, b) { let c = -a[0].k; if (!(a < b)) { x = {a: 1, \"b\": [f()]}; } else { return; } while (a && b) { break; } }", "a", "((a))", "{}", "[(1)]", many("(", 24) + "1" + many(")", 24), many("-", 24) + "1"}
	dice := rand.New(rand.NewSource(1806))
	tokens := strings.Fields(`fn export let if else while return break continue true unit ( ) { } [ ] , ; : . = == - ! + * && || a b 1 "x" fn f ( ) {`)
	for range 60000 {
		s := ""
		for range 1 + dice.Intn(9) {
			s += tokens[dice.Intn(len(tokens))] + " "
		}
		sources = append(sources, s, "fn f ( ) { "+s+"}", "fn f ( ) { "+s+"; }")
	}
	read := 0
	for _, s := range sources {
		if n, _, e := parse.Expr(s); e == api.OK {
			read++
			faces(t, "expr", n)
			if !isRight(t, "expr", n) {
				t.Fatalf("what %q says is refused", s)
			}
		}
		if n, _, e := parse.Program(s); e == api.OK {
			read++
			faces(t, "program", n)
			if !isRight(t, "program", n) {
				t.Fatalf("what %q says is refused", s)
			}
		}
	}
	if read < 3000 {
		t.Errorf("only %d sources were read", read)
	}
}

// Two right trees are the same just if their texts are.
func TestFollowsTexts(t *testing.T) {
	for _, start := range starts {
		dice := rand.New(rand.NewSource(1807))
		put := print.Expr
		if start == "program" {
			put = print.Program
		}
		var trees []api.Node
		var texts []string
		for len(trees) < 600 {
			n := grown(dice, start, 1+dice.Intn(2))
			if dice.Intn(2) == 0 && len(trees) > 0 {
				n = spoilt(dice, trees[dice.Intn(len(trees))])
			}
			if s, e := put(n); e == api.OK {
				trees, texts = append(trees, n), append(texts, s)
			}
		}
		alike := 0
		for i, n := range trees {
			for j, m := range trees {
				if print.Same(n, m) != (texts[i] == texts[j]) {
					t.Fatalf("%q and %q: the same is %t", texts[i], texts[j], print.Same(n, m))
				}
				if i != j && texts[i] == texts[j] {
					alike++
				}
			}
		}
		if alike == 0 {
			t.Errorf("%s: no two were alike", start)
		}
	}
}

// Places are not looked at.
func TestP181Places(t *testing.T) {
	dice := rand.New(rand.NewSource(1808))
	for range 500 {
		n := grown(dice, "program", 4)
		want, e := print.Program(n)
		for _, x := range inner(&n) {
			x.At = int(dice.Uint64())
		}
		if s, f := print.Program(n); s != want || e != f {
			t.Fatalf("%q by its places is %q", want, s)
		}
	}
}

// Trees that hold themselves, or the same ones many times over, come to an end.
func TestR1Endless(t *testing.T) {
	self := []api.Node{node(api.List, "")}
	self[0].Kids = self
	block := []api.Node{node(api.While, "", named("a"), node(api.Block, ""))}
	block[0].Kids[1].Kids = block
	thick := node(api.Unary, "-", named("a"))
	for range 100 {
		thick = node(api.Binary, "+", thick, thick)
	}
	values := []api.Value{{Kind: api.Array}, {Kind: api.Array}}
	values[0].L, values[1].L = values, values
	wide := make([]api.Node, 1<<17)
	for i, n := range []api.Node{
		self[0], node(api.List, "", self...), node(api.Program, "", self[0]), program(block...), {Kind: api.Program, Kids: []api.Node{fn(block...)}}, thick, program(do(thick)),
		lit(values[0]), lit(api.Value{L: values}), node(api.List, "", lit(values[0])), program(do(lit(values[1]))), {Kind: api.Program, Kids: wide}, {Kind: api.List, Kids: wide}, {Kind: api.Program, Val: api.Value{L: values}},
	} {
		for _, start := range starts {
			if isRight(t, start, n) {
				t.Errorf("%d: %s is taken", i, start)
			}
		}
		if print.Same(n, n) || print.Same(n, api.Node{}) || print.Same(named("a"), n) {
			t.Errorf("%d: the same", i)
		}
	}
}

// Nothing that is handed in is written into, nor its spare room; the text is new memory.
func TestR3NewMemory(t *testing.T) {
	dice := rand.New(rand.NewSource(1809))
	for i := range 2000 {
		start := starts[i%2]
		n := roomy(grown(dice, start, 1+i%4))
		was := whole(n)
		put := print.Expr
		if start == "program" {
			put = print.Program
		}
		s, e := put(n)
		again, _ := put(n)
		print.Right(n)
		print.Same(n, n)
		if whole(n) != was {
			t.Fatalf("%q: what was handed in has changed", s)
		}
		if e == api.OK && s != "" && (overlaps(s, again) || sharesText(n, s)) {
			t.Fatalf("%q shares memory", s)
		}
	}
	name := strings.Clone("abc")
	if s, _ := print.Expr(named(name)); overlaps(s, name) {
		t.Errorf("a name's text is handed out")
	}
}

// roomy is a tree whose lists have spare room, with something in it.
func roomy(n api.Node) api.Node {
	kids := make([]api.Node, 0, len(n.Kids)+2)
	for _, x := range n.Kids {
		kids = append(kids, roomy(x))
	}
	n.Text = strings.Clone(n.Text)
	n.Val.L, n.Val.K = []api.Value{{N: 9}}[:0], []string{"spare"}[:0]
	n.Kids = append(kids, node(77, "spare"), node(78, "spare"))[:len(kids)]
	return n
}

// whole tells a tree with its places and its lists' spare room.
func whole(n api.Node) string {
	s := fmt.Sprint(n.Kind, n.Text, n.Flag, n.At, n.Val.Kind, n.Val.N, n.Val.S, len(n.Val.L), len(n.Val.K), n.Val.L[:cap(n.Val.L)], n.Val.K[:cap(n.Val.K)], len(n.Kids))
	for _, x := range n.Kids[:cap(n.Kids)] {
		s += " " + whole(x)
	}
	return s
}

func overlaps(a, b string) bool {
	if a == "" || b == "" {
		return false
	}
	from, to := uintptr(unsafe.Pointer(unsafe.StringData(a))), uintptr(unsafe.Pointer(unsafe.StringData(b)))
	return from < to+uintptr(len(b)) && to < from+uintptr(len(a))
}

func sharesText(n api.Node, s string) bool {
	if overlaps(n.Text, s) || overlaps(n.Val.S, s) {
		return true
	}
	return slices.ContainsFunc(n.Kids, func(x api.Node) bool { return sharesText(x, s) })
}

// Calls side by side, on whatever trees, tell what they tell alone.
func TestR4NothingIsKept(t *testing.T) {
	dice := rand.New(rand.NewSource(1810))
	var trees []api.Node
	for i := range 300 {
		n := grown(dice, starts[i%2], 1+i%6)
		trees = append(trees, n, spoilt(dice, n))
	}
	told := func() string {
		var out strings.Builder
		for i, n := range trees {
			s, e := print.Program(n)
			x, f := print.Expr(n)
			fmt.Fprintln(&out, s, e, x, f, print.Right(n), print.Same(n, trees[i/2]))
		}
		return out.String()
	}
	want := told()
	done := make(chan bool)
	for range 8 {
		go func() { done <- told() == want }()
	}
	for range 8 {
		if !<-done {
			t.Errorf("something else is told")
		}
	}
}
