package parse_test

import (
	"fmt"
	"math/rand"
	"reflect"
	"slices"
	"strconv"
	"strings"
	"testing"
	"unsafe"

	"scruple/api"
	"scruple/lex"
	"scruple/parse"
	"scruple/value"
)

var kindNames = strings.Fields("none program fn param block let set if while return break continue do lit name call unary binary list fields pair at dot")

// show is all of a tree: of each node its kind, Text, Flag, Val, place and Kids.
func show(n api.Node) string {
	s := strconv.Itoa(n.Kind)
	if n.Kind >= 0 && n.Kind < len(kindNames) {
		s = kindNames[n.Kind]
	}
	if n.Text != "" {
		s += ":" + n.Text
	}
	if n.Flag {
		s += "!"
	}
	if n.Kind == api.Lit || !reflect.DeepEqual(n.Val, api.Value{}) {
		s += ":" + value.Print(n.Val)
	}
	s += "@" + strconv.Itoa(n.At)
	if len(n.Kids) == 0 {
		return s
	}
	var l []string
	for _, k := range n.Kids {
		l = append(l, show(k))
	}
	return s + "(" + strings.Join(l, " ") + ")"
}

// brief is a tree, cut off where it gets long.
func brief(n api.Node) string { return fmt.Sprintf("%.400s", show(n)) }

// same: are two trees alike in each field? Lists of none are.
func same(a, b api.Node) bool {
	if a.Kind != b.Kind || a.Text != b.Text || a.Flag != b.Flag || a.At != b.At || len(a.Kids) != len(b.Kids) {
		return false
	}
	v, w := a.Val, b.Val
	if v.Kind != w.Kind || v.N != w.N || v.S != w.S || len(v.L)+len(w.L)+len(v.K)+len(w.K) > 0 {
		return false
	}
	return slices.EqualFunc(a.Kids, b.Kids, same)
}

// calls are the two of them, by what the second reading begins with.
var calls = map[string]func(string) (api.Node, int, api.Errno){"Program": parse.Program, "Or": parse.Expr}

// tree: is this the one that a source has?
func tree(t *testing.T, start, s, want string) {
	t.Helper()
	if n, at, e := calls[start](s); show(n) != want || at != 0 || e != api.OK {
		t.Errorf("%s of %.200q is %s, %d, %v, not %.400s", start, s, brief(n), at, e, want)
	}
	asModel(t, start, s)
}

func program(t *testing.T, s, want string) {
	t.Helper()
	tree(t, "Program", s, want)
}

func expr(t *testing.T, s, want string) {
	t.Helper()
	tree(t, "Or", s, want)
}

// faulty: is this the fault of a source?
func faulty(t *testing.T, start, s string, place int, want api.Errno) {
	t.Helper()
	if n, at, e := calls[start](s); !reflect.DeepEqual(n, api.Node{}) || at != place || e != want {
		t.Errorf("%s of %.200q is %s, %d, %v, not %d, %v", start, s, brief(n), at, e, place, want)
	}
	asModel(t, start, s)
}

// asModel: is a source read as the second reading reads it?
func asModel(t *testing.T, start, s string) {
	t.Helper()
	n, at, e := calls[start](s)
	m, wantAt, wantE := model(start, s)
	if !same(n, m) || at != wantAt || e != wantE {
		t.Fatalf("%s of %.300q is %s, %d, %v, not %s, %d, %v", start, s, brief(n), at, e, brief(m), wantAt, wantE)
	}
}

// marked is a source without its mark ^, and the place where that stood.
func marked(s string) (string, int) {
	at := strings.Index(s, "^")
	return s[:at] + s[at+1:], at
}

func many(s string, count int) string { return strings.Repeat(s, count) }

func TestExamples(t *testing.T) {
	expr(t, "1 + 2 * x", "binary:+@2(lit:1@0 binary:*@6(lit:2@4 name:x@8))")
	expr(t, "-a[0].k", "unary:-@0(dot:k@5(at@2(name:a@1 lit:0@3)))")
	faulty(t, "Or", "a < b < c", 6, api.ErrParseToken)
	expr(t, "a - b - c", "binary:-@6(binary:-@2(name:a@0 name:b@4) name:c@8)")
	faulty(t, "Or", "f(1,)", 4, api.ErrParseToken)
	expr(t, `{a: 1, "b": 2}`, "fields@0(pair:a@1(lit:1@4) pair:b@7(lit:2@12))")
	faulty(t, "Or", "", 0, api.ErrParseToken)
	expr(t, "(1)", "lit:1@1")
	program(t, "export fn f(a) { return a; }", "program@0(fn:f!@0(param:a@12 block@15(return@17(name:a@24))))")
	program(t, "fn f() { x = 1; x == 1; }", "program@0(fn:f@0(block@7(set:x@9(lit:1@13) do@16(binary:==@18(name:x@16 lit:1@21)))))")
	program(t, "fn f() { if (a) { } else if (b) { } }", "program@0(fn:f@0(block@7(if@9(name:a@13 block@16 if@25(name:b@29 block@32)))))")
	faulty(t, "Program", "fn f() { if (a) x; }", 16, api.ErrParseToken)
	expr(t, many("(", 24)+"1"+many(")", 24), "lit:1@24")
	faulty(t, "Or", many("(", 25)+"1"+many(")", 25), 24, api.ErrParseDeep)
	n, at, e := parse.Expr(many("-", 24) + "1")
	if n.Kind != api.Unary || at != 0 || e != api.OK {
		t.Errorf("24 signs: %s, %d, %v", brief(n), at, e)
	}
	faulty(t, "Or", many("-", 25)+"1", 24, api.ErrParseDeep)
}

// The sources of the document's examples of the whole.
func TestExamplesOfTheWhole(t *testing.T) {
	program(t, "export fn f(a) { return a + 1; }", "program@0(fn:f!@0(param:a@12 block@15(return@17(binary:+@26(name:a@24 lit:1@28)))))")
	program(t, `export fn g() { save("k", 1); return load("k"); }`, `program@0(fn:g!@0(block@14(do@16(call:save@16(lit:"k"@21 lit:1@26)) return@30(call:load@37(lit:"k"@42)))))`)
	program(t, `export fn h() { save("k", 2); abort(unit); }`, `program@0(fn:h!@0(block@14(do@16(call:save@16(lit:"k"@21 lit:2@26)) do@30(call:abort@30(lit:unit@36)))))`)
	program(t, "fn f(){return(1+2)*3;}", "program@0(fn:f@0(block@6(return@7(binary:*@18(binary:+@15(lit:1@14 lit:2@16) lit:3@19)))))")
}

func TestP171Programs(t *testing.T) {
	for _, s := range []string{"", " ", "\n// fn\n", "//"} {
		program(t, s, "program@0")
	}
	program(t, " fn f(){}", "program@0(fn:f@1(block@7))")
	program(t, " export\nfn f(){}", "program@0(fn:f!@1(block@14))")
	program(t, "fn f(a,b , c){}", "program@0(fn:f@0(param:a@5 param:b@7 param:c@11 block@13))")
	program(t, "fn f(){}fn f(){}export fn g(f){}", "program@0(fn:f@0(block@6) fn:f@8(block@14) fn:g!@16(param:f@28 block@30))")
	// How many parameters there may be, and whether names are there twice, is not asked here.
	n, at, e := parse.Program("fn f(" + many("a, ", 40) + "a) {}")
	if at != 0 || e != api.OK || len(n.Kids) != 1 || len(n.Kids[0].Kids) != 42 {
		t.Errorf("41 parameters: %s, %d, %v", brief(n), at, e)
	}
	n, at, e = parse.Program(many("fn f(){}", 1024))
	if at != 0 || e != api.OK || len(n.Kids) != 1024 || n.Kids[1023].At != 8184 {
		t.Errorf("1024 functions: %s, %d, %v", brief(n), at, e)
	}
}

// Each statement, in a function's Block that begins ahead of it.
func TestP171Statements(t *testing.T) {
	for s, want := range map[string]string{
		"":                       "",
		"let a;":                 "let:a@8",
		"let a = 1;":             "let:a@8(lit:1@16)",
		"let a=b==c;":            "let:a@8(binary:==@15(name:b@14 name:c@17))",
		"a = 1;":                 "set:a@8(lit:1@12)",
		"a=b==c;":                "set:a@8(binary:==@11(name:b@10 name:c@13))",
		"a == 1;":                "do@8(binary:==@10(name:a@8 lit:1@13))",
		"a;":                     "do@8(name:a@8)",
		"a.b;":                   "do@8(dot:b@9(name:a@8))",
		"a[1];":                  "do@8(at@9(name:a@8 lit:1@10))",
		"a(1);":                  "do@8(call:a@8(lit:1@10))",
		"(a);":                   "do@8(name:a@9)",
		"(a) + b;":               "do@8(binary:+@12(name:a@9 name:b@14))",
		"((a)).b;":               "do@8(dot:b@13(name:a@10))",
		"-a;":                    "do@8(unary:-@8(name:a@9))",
		"1;":                     "do@8(lit:1@8)",
		`"=";`:                   `do@8(lit:"="@8)`,
		"true;":                  "do@8(lit:true@8)",
		"unit;":                  "do@8(lit:unit@8)",
		"[];":                    "do@8(list@8)",
		"{};":                    "do@8(fields@8)",
		"{a: 1};":                "do@8(fields@8(pair:a@9(lit:1@12)))",
		"{a: 1}.a;":              "do@8(dot:a@14(fields@8(pair:a@9(lit:1@12))))",
		"return;":                "return@8",
		"return a;":              "return@8(name:a@15)",
		"return {};":             "return@8(fields@15)",
		"return -1;":             "return@8(unary:-@15(lit:1@16))",
		"break;":                 "break@8",
		"continue;":              "continue@8",
		"while (a) { }":          "while@8(name:a@15 block@18)",
		"while (a) { break; }":   "while@8(name:a@15 block@18(break@20))",
		"while({}){}":            "while@8(fields@14 block@17)",
		"if (a) { }":             "if@8(name:a@12 block@15)",
		"if ((a)) { }":           "if@8(name:a@13 block@17)",
		"if (a) { } else { }":    "if@8(name:a@12 block@15 block@24)",
		"if(a){b;}else{c;}":      "if@8(name:a@11 block@13(do@14(name:b@14)) block@21(do@22(name:c@22)))",
		"if(a){}if(b){}else{}":   "if@8(name:a@11 block@13) if@15(name:b@18 block@20 block@26)",
		"if(a){}else if(b){}":    "if@8(name:a@11 block@13 if@20(name:b@23 block@25))",
		"if(a){if(b){}else{}}":   "if@8(name:a@11 block@13(if@14(name:b@17 block@19 block@25)))",
		"if(a){if(b){}}else{}":   "if@8(name:a@11 block@13(if@14(name:b@17 block@19)) block@26)",
		"a;b=1;let c;return;":    "do@8(name:a@8) set:b@10(lit:1@12) let:c@14 return@20",
		"if(a){}-b;":             "if@8(name:a@11 block@13) do@15(unary:-@15(name:b@16))",
		"if(a){}[b];":            "if@8(name:a@11 block@13) do@15(list@15(name:b@16))",
		"if(a){}(b);":            "if@8(name:a@11 block@13) do@15(name:b@16)",
		"while(a){}{};":          "while@8(name:a@14 block@16) do@18(fields@18)",
		"return;return 1;break;": "return@8 return@15(lit:1@22) break@24",
	} {
		if want != "" {
			want = "(" + want + ")"
		}
		program(t, "fn f(){ "+s+"}", "program@0(fn:f@0(block@6"+want+"))")
	}
	// A chain of else is a chain of Ifs.
	program(t, "fn f(){if(a){}else if(b){}else if(c){}else{}}",
		"program@0(fn:f@0(block@6(if@7(name:a@10 block@12 if@19(name:b@22 block@24 if@31(name:c@34 block@36 block@42))))))")
}

func TestP172Expressions(t *testing.T) {
	for s, want := range map[string]string{
		"a":                       "name:a@0",
		" a ":                     "name:a@1",
		"0":                       "lit:0@0",
		"9223372036854775807":     "lit:9223372036854775807@0",
		`""`:                      `lit:""@0`,
		`"a\x00\"b"`:              `lit:"a\x00\"b"@0`,
		`"fn"`:                    `lit:"fn"@0`,
		`"-"`:                     `lit:"-"@0`,
		"true":                    "lit:true@0",
		"false":                   "lit:false@0",
		"unit":                    "lit:unit@0",
		"len":                     "name:len@0",
		"f()":                     "call:f@0",
		"f( )":                    "call:f@0",
		"f(a)":                    "call:f@0(name:a@2)",
		"f(a,g(b),-c)":            "call:f@0(name:a@2 call:g@4(name:b@6) unary:-@9(name:c@10))",
		"f (a)":                   "call:f@0(name:a@3)",
		"len(a)":                  "call:len@0(name:a@4)",
		"f((a))":                  "call:f@0(name:a@3)",
		"[]":                      "list@0",
		"[ 1 ]":                   "list@0(lit:1@2)",
		"[1,[2],[]]":              "list@0(lit:1@1 list@3(lit:2@4) list@7)",
		"{}":                      "fields@0",
		"{a:1}":                   "fields@0(pair:a@1(lit:1@3))",
		`{"a":1}`:                 "fields@0(pair:a@1(lit:1@5))",
		`{"":1}`:                  "fields@0(pair@1(lit:1@4))",
		`{"if":1,"x y":{}}`:       "fields@0(pair:if@1(lit:1@6) pair:x y@8(fields@14))",
		"{a:1,a:1}":               "fields@0(pair:a@1(lit:1@3) pair:a@5(lit:1@7))",
		"{b:1,a:x<y}":             "fields@0(pair:b@1(lit:1@3) pair:a@5(binary:<@8(name:x@7 name:y@9)))",
		"a[1]":                    "at@1(name:a@0 lit:1@2)",
		"a[1][2]":                 "at@4(at@1(name:a@0 lit:1@2) lit:2@5)",
		"a.b.c":                   "dot:c@3(dot:b@1(name:a@0))",
		"a.b[c.d].e":              "dot:e@8(at@3(dot:b@1(name:a@0) dot:d@5(name:c@4)))",
		"f(a)[1].b":               "dot:b@7(at@4(call:f@0(name:a@2) lit:1@5))",
		"[1][0]":                  "at@3(list@0(lit:1@1) lit:0@4)",
		"{a:1}.a":                 "dot:a@5(fields@0(pair:a@1(lit:1@3)))",
		`"ab"[0]`:                 `at@4(lit:"ab"@0 lit:0@5)`,
		"1.a":                     "dot:a@1(lit:1@0)",
		"1[2]":                    "at@1(lit:1@0 lit:2@2)",
		"unit.a":                  "dot:a@4(lit:unit@0)",
		"true[a]":                 "at@4(lit:true@0 name:a@5)",
		"(a).b":                   "dot:b@3(name:a@1)",
		"(a+b)[c]":                "at@5(binary:+@2(name:a@1 name:b@3) name:c@6)",
		"(-a)[0]":                 "at@4(unary:-@1(name:a@2) lit:0@5)",
		"-(a)[0]":                 "unary:-@0(at@4(name:a@2 lit:0@5))",
		"-a":                      "unary:-@0(name:a@1)",
		"!a":                      "unary:!@0(name:a@1)",
		"--1":                     "unary:-@0(unary:-@1(lit:1@2))",
		"- ! -a":                  "unary:-@0(unary:!@2(unary:-@4(name:a@5)))",
		"!f(a)":                   "unary:!@0(call:f@1(name:a@3))",
		"-a.b":                    "unary:-@0(dot:b@2(name:a@1))",
		"-9223372036854775807":    "unary:-@0(lit:9223372036854775807@1)",
		"a-1":                     "binary:-@1(name:a@0 lit:1@2)",
		"a--1":                    "binary:-@1(name:a@0 unary:-@2(lit:1@3))",
		"a- - -1":                 "binary:-@1(name:a@0 unary:-@3(unary:-@5(lit:1@6)))",
		"-a-b":                    "binary:-@2(unary:-@0(name:a@1) name:b@3)",
		"-a*-b":                   "binary:*@2(unary:-@0(name:a@1) unary:-@3(name:b@4))",
		"!a==b":                   "binary:==@2(unary:!@0(name:a@1) name:b@4)",
		"a!=!b":                   "binary:!=@1(name:a@0 unary:!@3(name:b@4))",
		"a.b+c[d]*e(f)":           "binary:+@3(dot:b@1(name:a@0) binary:*@8(at@5(name:c@4 name:d@6) call:e@9(name:f@11)))",
		"-(a+b)":                  "unary:-@0(binary:+@3(name:a@2 name:b@4))",
		"(a<b)<c":                 "binary:<@5(binary:<@2(name:a@1 name:b@3) name:c@6)",
		"a<(b<c)":                 "binary:<@1(name:a@0 binary:<@4(name:b@3 name:c@5))",
		"a<b&&c<d":                "binary:&&@3(binary:<@1(name:a@0 name:b@2) binary:<@6(name:c@5 name:d@7))",
		"a<b||c==d&&e":            "binary:||@3(binary:<@1(name:a@0 name:b@2) binary:&&@9(binary:==@6(name:c@5 name:d@8) name:e@11))",
		"(a+b)*c":                 "binary:*@5(binary:+@2(name:a@1 name:b@3) name:c@6)",
		"a-(b-c)":                 "binary:-@1(name:a@0 binary:-@4(name:b@3 name:c@5))",
		"a+b<c+d":                 "binary:<@3(binary:+@1(name:a@0 name:b@2) binary:+@5(name:c@4 name:d@6))",
		"((a)+(b*c))-(d-e)":       "binary:-@11(binary:+@4(name:a@2 binary:*@7(name:b@6 name:c@8)) binary:-@14(name:d@13 name:e@15))",
		"a*b+c*d-e":               "binary:-@7(binary:+@3(binary:*@1(name:a@0 name:b@2) binary:*@5(name:c@4 name:d@6)) name:e@8)",
		"f(a<b,c<d)":              "call:f@0(binary:<@3(name:a@2 name:b@4) binary:<@7(name:c@6 name:d@8))",
		"[a<b,c<d][e<f]":          "at@9(list@0(binary:<@2(name:a@1 name:b@3) binary:<@6(name:c@5 name:d@7)) binary:<@11(name:e@10 name:f@12))",
		"a[b]<c[d]":               "binary:<@4(at@1(name:a@0 name:b@2) at@6(name:c@5 name:d@7))",
		"[{a:[{b:f({})}]}]":       "list@0(fields@1(pair:a@2(list@4(fields@5(pair:b@6(call:f@8(fields@10)))))))",
		"// x\n(// y\na // z\n) ": "name:a@11",
	} {
		expr(t, s, want)
	}
}

// binds is how much a sign does, in the order of DOC.md's row.
var binds = map[string]int{"||": 1, "&&": 2, "==": 3, "!=": 3, "<": 3, "<=": 3, ">": 3, ">=": 3, "+": 4, "-": 4, "*": 5, "/": 5, "%": 5}

// Each two signs with three names.
func TestP172EachTwoSigns(t *testing.T) {
	for one, first := range binds {
		for two, second := range binds {
			s := "a " + one + " b " + two + " c"
			at, behind := 2, 5+len(one)
			a, b, c := "name:a@0", fmt.Sprintf("name:b@%d", 3+len(one)), fmt.Sprintf("name:c@%d", len(s)-1)
			switch {
			case first == 3 && second == 3:
				faulty(t, "Or", s, behind, api.ErrParseToken)
			case first < second:
				expr(t, s, fmt.Sprintf("binary:%s@%d(%s binary:%s@%d(%s %s))", one, at, a, two, behind, b, c))
			default:
				expr(t, s, fmt.Sprintf("binary:%s@%d(binary:%s@%d(%s %s) %s)", two, behind, one, at, a, b, c))
			}
		}
	}
}

// Each three signs with four names: whether one is too many does not hang on what stands between.
func TestP172EachThreeSigns(t *testing.T) {
	for one := range binds {
		for two := range binds {
			for three := range binds {
				asModel(t, "Or", "a "+one+" b "+two+" -c "+three+" d.e")
				asModel(t, "Or", "a "+one+" (b "+two+" c) "+three+" d")
			}
		}
	}
	for _, s := range []string{"a < b + c ^< d", "a + b == c * d ^!= e", "x || a < b ^> c && d", "x && a < b ^<= c", "f(a < b ^< c)", "(a < b) < c ^< d", "a == -b ^== c", "[a >= b ^>= c]", "a < b && c < d && e < f ^< g"} {
		source, at := marked(s)
		faulty(t, "Or", source, at, api.ErrParseToken)
	}
}

// The mark stands ahead of the token that can't stand there.
func TestP171Tokens(t *testing.T) {
	for _, s := range []string{
		"^f", "^1", "^;", "^{", "^let a;", "^return;", "^(", `^"fn" f(){}`, "export ^", "export ^export fn f(){}", "export ^f(){}", `export ^"fn"`,
		"fn ^", "fn ^fn", "fn ^1", "fn ^(", `fn ^"f"`, "fn ^if(){}", "fn f^", "fn f ^{", "fn f ^a", `fn f^"("`, "fn f(^", "fn f(^,", "fn f(^1", "fn f(^(", `fn f(^"a"`, "fn f(^true)",
		"fn f(a^", "fn f(a ^b", "fn f(a^=1)", "fn f(a,^", "fn f(a,^)", "fn f(a,^,", "fn f(a,^1)", `fn f(a^","b)`, "fn f(a^;b)",
		"fn f()^", "fn f()^;", "fn f()^(", "fn f()^return", `fn f()^"{"`, "fn f(){^", "fn f(){^)", "fn f(){}^}", "fn f(){}^;", "fn f(){}^1", "fn f(){}^{}", "fn f(){}export ^", "fn f(){}fn ^",
	} {
		source, at := marked(s)
		faulty(t, "Program", source, at, api.ErrParseToken)
	}
	for _, s := range []string{
		"^", "^;", "^)", "^,", "^fn", "^fn g(){}", "^export", "^else {}", "^=", "^.a", "^*", "^:", "^]", "^==", "^+a;", "^/a;", "^&&", `"a"^"b";`,
		"let ^", "let ^;", "let ^=", "let ^1", "let ^let", `let ^"a";`, "let ^(a);", "let a^", "let a^}", "let a ^b;", "let a^==1;", "let a^,b;", "let a=^", "let a=^;", "let a=1^", "let a=1^}", "let a=1^,", "let a^.b;",
		"a^", "a^}", "a ^b;", "a^,", "a^:1;", "a=^", "a=^;", "a=b^=1;", "a=1^", "a=1^}", "(a)^=1;", "a.b^=1;", "a[0]^=1;", "f()^=1;", "1^=1;", `"a"^=1;`, "-a^=1;", "a+b^=1;", "[a]^=1;", "true^=1;", `a^"=";`,
		"if ^", "if ^a", "if ^{", `if ^"("`, "if (^", "if (^)", "if (^let", "if (a^", "if (a^;", "if (a^,b){}", "if (a^=b){}", "if (a)^", "if (a)^;", "if (a) ^b;", "if (a) ^return;", "if (a)^(b", "if (a)^+", "if (a)^if", "if (a){^", "if (a){^else", "if (a){} else ^", "if (a){} else ^;", "if (a){} else ^b;", "if (a){} else ^else", "if (a){} else ^while(b){}", `if (a){} else ^"{"`, "if (a){} else if ^{", "if (a){} else {} ^else {}", "if (a){}^;", "if (a){} else {}^;", "if (a){}^;", "if (a){}^.b;", "if (a){}^+b;", "if (a){}else^",
		"while ^", "while ^a", "while ^{", "while (^", "while (^)", "while (a^", "while (a^;", "while (a)^", "while (a)^;", "while (a) ^b;", "while (a)^else", "while (a){} ^else {}", "while (a){}^;", "while (a){}^*",
		"return^", "return^}", "return ^=", "return ^return", "return ^let", "return 1^", "return 1^}", "return 1^,2;", "return a^=1;", "return ^)", "return {a^;}", "return {^1:2};",
		"break^", "break^}", "break ^a;", "break ^1;", "break ^break", "continue^", "continue^}", "continue ^a;", "continue^(",
		"{a:1^;", "{a:1}^", "{a:1}^}", "{a^;}", "{^let a;}", "{a^=1;}", "{^{}}", "{^return;}",
	} {
		source, at := marked("fn f(){" + s)
		faulty(t, "Program", source, at, api.ErrParseToken)
	}
}

func TestP172Tokens(t *testing.T) {
	for _, s := range []string{
		"^", " ^", "//\n^", "^)", "^;", "^,", "^=", "^fn", "^let", "^if", "^else", "^export", "^return", "^break", "^.a", "^]", "^}", "^:", "^*a", "^/a", "^%a", "^+a", "^==a", "^<a", "^&&a", "^||a",
		"a ^b", "a ^1", `a ^"b"`, "1 ^2", "1 ^a", "1^(", "a^;", "a^,b", "a^=b", "a^)", "a^]", "a^}", "a^:b", "a ^true", "true ^false", "unit ^unit", "a ^fn", "a^!b", "a ^{}", "a^{b:1}", `"a"^(b)`,
		"a+^", "a+^)", "a+^*b", "a+^+b", "a*^/b", "a&&^", "a&&^||b", "a==^", "a==^=b", "a<^>b", "a-^", "-^", "!^", "-^)", "-^+a", "- ^==a", "!^if",
		"(^", "(^)", "(a^", "(a^]", "(a^}", "(a^,b)", "(a^;", "(a) ^b", "(a)^(b)", "(a)^1", "(a)^)", "(a)^{}", "(^,a)", "(^;",
		"f(^", "f(^,", "f(^,a)", "f(^]", "f(a^", "f(a ^b)", "f(a,^", "f(a,^)", "f(a,^,b)", "f(a^;b)", "f(a^]", "f(a^:b)", "f(a)^(b)", "f()^()", "f(a) ^b", "f(^let)", "1^()", "true^()", "[]^()", "{}^()", "a.b^()", "a[0]^(1)", `"f"^()`, "unit^(a)",
		"[^", "[^,", "[^,a]", "[a^", "[a ^b]", "[a,^", "[a,^]", "[a,^,b]", "[a^)", "[a^;b]", "[^:]", "[a^:b]", "[^}",
		"{^", "{^,", "{^,a:1}", "{^1:2}", "{^true:1}", "{^unit:1}", "{^if:1}", "{^(a):1}", "{^[a]:1}", "{^-a:1}", "{a^", "{a^}", "{a^,b:1}", "{a^=1}", "{a ^b:1}", "{a^.b:1}", `{"a"^}`, `{"a"^,`, `{"a"^"b":1}`, "{a:^", "{a:^}", "{a:^,", "{a:^:", "{a:1^", "{a:1 ^b:2}", "{a:1^;", "{a:1,^", "{a:1,^}", "{a:1,^,", "{a:1,^1}", "{a:1^]", "{a:1^:", "{a:1}^:",
		"a[^", "a[^]", "a[^,", "a[b^", "a[b^,c]", "a[b^:c]", "a[b^)", "a[b^}", "a[b]^c", "a.^", "a.^1", `a.^"b"`, "a.^if", "a.^true", "a.^(b)", "a.^[", "a.^.b", "a.b ^c", "1.^5", "a.^.b", "f().^", "-a.^-b",
	} {
		source, at := marked(s)
		faulty(t, "Or", source, at, api.ErrParseToken)
	}
	faulty(t, "Or", "a + // b", 8, api.ErrParseToken)
	// Bytes that say what a sign or a keyword says are neither.
	for _, sign := range strings.Fields("( ) { } [ ] , ; : . = == != < <= > >= + - * / % ! && || fn if true unit") {
		said := lex.Quote(sign)
		faulty(t, "Or", "a "+said+" b", 2, api.ErrParseToken)
		faulty(t, "Or", "f(a "+said+" b)", 4, api.ErrParseToken)
		faulty(t, "Or", said+" a", 2+len(sign)+1, api.ErrParseToken)
		faulty(t, "Or", "- a "+said, 4, api.ErrParseToken)
		faulty(t, "Program", "fn f() { a "+said+" b; }", 11, api.ErrParseToken)
		expr(t, said, "lit:"+said+"@0")
	}
}

// What lex refuses is told first, whatever stands ahead of it.
func TestP171WhatLexRefuses(t *testing.T) {
	for _, x := range []struct {
		s  string
		at int
		e  api.Errno
	}{
		{"#", 0, api.ErrLexByte}, {"fn fn #", 6, api.ErrLexByte}, {") a & b", 4, api.ErrLexByte}, {"012", 0, api.ErrLexInt}, {"} 1x", 2, api.ErrLexInt},
		{`) "`, 2, api.ErrLexBytes}, {"; " + many("a", 21), 2, api.ErrLexName}, {many(" ", 8193), 0, api.ErrLexLong}, {many(")", 8193), 0, api.ErrLexLong},
		{many("(", 25) + "#", 25, api.ErrLexByte}, {many("-", 30) + `"\n"`, 30, api.ErrLexBytes}, {"fn f(){} é", 9, api.ErrLexByte},
		{"fn f(){" + many("{", 8186), 0, api.ErrLexLong},
	} {
		faulty(t, "Program", x.s, x.at, x.e)
		faulty(t, "Or", x.s, x.at, x.e)
	}
	// As long as a source may be.
	program(t, many(" ", 8192), "program@0")
	expr(t, many(" ", 8191)+"a", "name:a@8191")
	faulty(t, "Or", many(" ", 8192), 8192, api.ErrParseToken)
}

// A key between quotes has 32 bytes at most, however they are written; elsewhere there may be more.
func TestP171Keys(t *testing.T) {
	for _, one := range []string{"a", " ", `\"`, `\\`, `\x00`, `\xff`} {
		for count := range 35 {
			s := `{"` + many(one, count) + `": 1}`
			if count > 32 {
				faulty(t, "Or", s, 1, api.ErrParseToken)
				faulty(t, "Or", "[f({a: 1, "+s[1:]+")]", 10, api.ErrParseToken)
				faulty(t, "Program", "fn f() { return "+s, 17, api.ErrParseToken)
				faulty(t, "Or", s[:len(s)-4], 1, api.ErrParseToken)
			} else if n, at, e := parse.Expr(s); at != 0 || e != api.OK || len(n.Kids) != 1 || len(n.Kids[0].Text) != count || n.Kids[0].Kind != api.Pair {
				t.Errorf("%s is %s, %d, %v", s, brief(n), at, e)
			}
			asModel(t, "Or", s)
			asModel(t, "Or", `{a: "`+many(one, count)+`"}`)
			asModel(t, "Or", `["`+many(one, count)+`"]`)
		}
	}
	// No bytes are too long where a key can't stand, nor is what they say a sign.
	expr(t, `"`+many("a", 33)+`"[0]`, `at@35(lit:"`+many("a", 33)+`"@0 lit:0@36)`)
	expr(t, `{a: "`+many("a", 2047)+`"}`, `fields@0(pair:a@1(lit:"`+many("a", 2047)+`"@4))`)
	expr(t, `{"}": ":"}`, `fields@0(pair:}@1(lit:":"@6))`)
	faulty(t, "Or", `{a ":" 1}`, 3, api.ErrParseToken)
	faulty(t, "Or", `["a" "," "b"]`, 5, api.ErrParseToken)
	faulty(t, "Or", `{"`+many("a", 33)+`"}`, 1, api.ErrParseToken)
}

// wraps are what leaves just one more open about an expression, and where in it the first one stands that opens.
var wraps = []struct {
	ahead, behind string
	opens         int
}{
	{"(", ")", 0}, {"[", "]", 0}, {"[1,", "]", 0}, {"f(", ")", 1}, {"f(a, ", ", b)", 1}, {"{a:", "}", 0}, {"{a:1,\"b\":", "}", 0},
	{"a[", "]", 1}, {"[][", "]", 0}, {"f()[", "]", 1}, {"-", "", 0}, {"!", "", 0}, {"(a).b[", "]", 0}, {"1+(", ")", 2}, {"-a*(", ")*-b", 0}, {"[] && [a, ", "].c", 0},
}

func TestP171DeepExpressions(t *testing.T) {
	for _, w := range wraps {
		for _, about := range []struct{ ahead, behind string }{{"", ""}, {"(a) + [b] * ", " - {}"}} {
			ahead := about.ahead + many(w.ahead, 24)
			behind := many(w.behind, 24) + about.behind
			for _, inner := range []string{"1", "a.b", "a + b"} {
				asModel(t, "Or", ahead+inner+behind)
				if _, at, e := parse.Expr(ahead + inner + behind); at != 0 || e != api.OK {
					t.Errorf("24 of %s about %s: %d, %v", w.ahead, inner, at, e)
				}
			}
			for _, s := range []string{"(1)", "[]", "{}", "-1", "!a"} {
				faulty(t, "Or", ahead+s+behind, len(ahead), api.ErrParseDeep)
				faulty(t, "Or", ahead+s[:1], len(ahead), api.ErrParseDeep)
			}
			for _, s := range []string{"f()", "a[0]", "1[0]"} {
				faulty(t, "Or", ahead+s+behind, len(ahead)+1, api.ErrParseDeep)
			}
			faulty(t, "Or", ahead+w.ahead+"1", len(ahead)+w.opens, api.ErrParseDeep)
		}
	}
}

// Unarys are open up to the end of what they sign, no further.
func TestP171DeepSigns(t *testing.T) {
	deep := many("-", 24)
	for _, s := range []string{"a", "a.b.c", "a + (b)", "a + -b", "a && [1][2]", "a == " + deep + "b", "a < -b"} {
		asModel(t, "Or", deep+s)
		if _, at, e := parse.Expr(deep + s); at != 0 || e != api.OK {
			t.Errorf("24 signs and %s: %d, %v", s, at, e)
		}
	}
	for _, s := range []string{"a^[0]", "a.b^[0]", "f^(a)", "^(a)", "^[a]", "^{}", "^-a", "^!a", "a + " + deep + "^!b", "a + " + deep + "b^[0]", "a.b.c^[0]"} {
		source, at := marked(deep + s)
		faulty(t, "Or", source, at, api.ErrParseDeep)
	}
	half := many("(-", 12)
	expr(t, half+"a"+many(")", 12)+"[0]", "at@37("+signed(half, "name:a@24")+" lit:0@38)")
	faulty(t, "Or", half+"a[0]"+many(")", 12), 25, api.ErrParseDeep)
	// In a list each element begins anew.
	list := "[" + many(many("!", 23)+"a, ", 20) + "b]"
	asModel(t, "Or", list)
	if n, at, e := parse.Expr(list); at != 0 || e != api.OK || len(n.Kids) != 21 {
		t.Errorf("23 signs in a list: %s, %d, %v", brief(n), at, e)
	}
	faulty(t, "Or", "[a, -b, "+many("!", 24), 31, api.ErrParseDeep)
}

// signed is the tree of a node behind these signs and brackets.
func signed(ahead, node string) string {
	for i := len(ahead) - 1; i >= 0; i-- {
		if ahead[i] == '-' {
			node = fmt.Sprintf("unary:-@%d(%s)", i, node)
		}
	}
	return node
}

// Brackets of functions, of if and of while are not counted; Blocks are; what is closed is open no more.
func TestP171DeepBlocks(t *testing.T) {
	for _, head := range []string{"if(a){", "while(a){", "if(a){}else{", "if(a){}else if(b){", "if((a)){}b;while([c]){"} {
		ahead := "fn f(){" + many(head, 23)
		behind := many("}", 24)
		for _, inner := range []string{"", "a;", "return;", "let a = b.c;", "break;", "x = 1;"} {
			asModel(t, "Program", ahead+inner+behind)
			if _, at, e := parse.Program(ahead + inner + behind); at != 0 || e != api.OK {
				t.Errorf("24 Blocks of %s about %s: %d, %v", head, inner, at, e)
			}
		}
		for _, s := range []string{"if(a)^{}", "while(a)^{}", "if(^(a)){}", "while(a^[0]){}", "^(a);", "^{};", "^[];", "f^();", "return ^-a;", "let a = ^{};", "x = ^!a;", "x = a + f^(b);", "a; b; ^(", "if (a + ^-b"} {
			source, at := marked(ahead + s + behind)
			faulty(t, "Program", source, at, api.ErrParseDeep)
		}
		for _, s := range []string{"^)", "if(a)^;", "if(^)", "^]", "a^{", "return ^else", "let ^{", "let ^(", "f^{", "if ^{", "if^[", "break^(", "continue^{", "a.^(", "a.^[", "x=^)"} {
			source, at := marked(ahead + s + behind)
			faulty(t, "Program", source, at, api.ErrParseToken)
		}
	}
	ok := "fn f(){" + many("if(a){}", 100) + many("f(a);[a];{};-a;", 100) + "}" + many("fn f(){}", 100)
	asModel(t, "Program", ok)
	if _, at, e := parse.Program(ok); at != 0 || e != api.OK {
		t.Errorf("one behind the other: %d, %v", at, e)
	}
	program(t, "fn f("+many("a,", 30)+"a){}", "program@0(fn:f@0("+manyParams(31)+"block@67))")
	faulty(t, "Program", "fn f(){return "+many("(", 24)+"1", 37, api.ErrParseDeep)
	faulty(t, "Program", "fn f(){if("+many("(", 23)+"1"+many(")", 23)+"^)", 34+23, api.ErrLexByte)
	source := "fn f(){if(" + many("(", 23) + "1" + many(")", 23) + "){}}"
	if _, at, e := parse.Program(source); at != 0 || e != api.OK {
		t.Errorf("23 brackets within if's: %d, %v", at, e)
	}
	asModel(t, "Program", source)
}

func manyParams(count int) string {
	out := ""
	for i := range count {
		out += fmt.Sprintf("param:a@%d ", 5+2*i)
	}
	return out
}

// The first fault is told, be it the one or the other.
func TestP171TheFirstFault(t *testing.T) {
	deep := many("(", 24)
	faulty(t, "Or", deep+")", 24, api.ErrParseToken)
	faulty(t, "Or", deep, 24, api.ErrParseToken)
	faulty(t, "Or", deep+"]((", 24, api.ErrParseToken)
	faulty(t, "Or", deep+"(]", 24, api.ErrParseDeep)
	faulty(t, "Or", deep+"(((", 24, api.ErrParseDeep)
	faulty(t, "Or", deep+"1(", 25, api.ErrParseToken)
	faulty(t, "Or", deep+"1{", 25, api.ErrParseToken)
	faulty(t, "Or", deep+"1!", 25, api.ErrParseToken)
	faulty(t, "Or", deep+"1[", 25, api.ErrParseDeep)
	faulty(t, "Or", deep+"1-", 26, api.ErrParseToken)
	faulty(t, "Or", deep+"1-(", 26, api.ErrParseDeep)
	faulty(t, "Or", "]"+deep+"(", 0, api.ErrParseToken)
	faulty(t, "Or", deep+"1"+many(")", 25), 49, api.ErrParseToken)
	faulty(t, "Or", deep+"1"+many(")", 24)+"(", 49, api.ErrParseToken)
	faulty(t, "Or", deep+"1"+many(")", 24)+"["+deep, 73, api.ErrParseDeep)
	faulty(t, "Program", deep+"(", 0, api.ErrParseToken)
	faulty(t, "Program", "fn f("+deep, 5, api.ErrParseToken)
}

// alphabet are tokens that make each form; blanks part them.
var alphabet = strings.Fields(`a 1 "k" true fn export let if else while return break ( ) { } [ ] , ; : . = == < + * - ! && ||`)

// everyRow goes through each row of tokens behind these, up to so many more, which may stand there, and each with one
// more token, which may or may not: each of them is held against the second reading.
func everyRow(t *testing.T, start, ahead string, more int) {
	c := newChart(start)
	var l []api.Token
	tokens, _, e := lex.All(ahead)
	if e != api.OK {
		t.Fatalf("%q: %v", ahead, e)
	}
	for _, token := range tokens[:len(tokens)-1] {
		if !c.push(token) {
			t.Fatalf("%q: %v", ahead, token)
		}
		l = append(l, token)
	}
	rowsBehind(t, c, ahead, l, more)
}

func rowsBehind(t *testing.T, c *chart, s string, l []api.Token, more int) {
	call := calls[c.start]
	n, at, e := call(s)
	if c.whole() {
		if m := modelTree(c.start, l); !same(n, m) || at != 0 || e != api.OK {
			t.Fatalf("%s of %q is %s, %d, %v, not %s", c.start, s, brief(n), at, e, brief(m))
		}
	} else if n.Kind != 0 || at != len(s) || e != api.ErrParseToken {
		t.Fatalf("%s of %q is %s, %d, %v, not a fault at its end", c.start, s, brief(n), at, e)
	}
	for _, word := range alphabet {
		next := s + " " + word
		tokens, _, _ := lex.All(word)
		token := tokens[0]
		token.At = len(s) + 1
		if !c.push(token) {
			if n, at, e := call(next); n.Kind != 0 || at != token.At || e != api.ErrParseToken {
				t.Fatalf("%s of %q is %s, %d, %v, not a fault at the last token", c.start, next, brief(n), at, e)
			}
			continue
		}
		if more > 0 {
			rowsBehind(t, c, next, append(l[:len(l):len(l)], token), more-1)
		}
		c.pop()
	}
}

func TestP171EveryRow(t *testing.T) {
	everyRow(t, "Program", "", 6)
	for _, s := range []string{"export fn f (", "fn f ( ) {", "fn f ( a ) { let a", "fn f ( ) { a", "fn f ( ) { if ( a )", "fn f ( ) { if ( a ) { }", "fn f ( ) { if ( a ) { } else", "fn f ( ) { while ( a ) { }", "fn f ( ) { return", "fn f ( ) { { }", "fn f ( ) { a = {"} {
		everyRow(t, "Program", s, 3)
	}
}

func TestP172EveryRow(t *testing.T) {
	everyRow(t, "Or", "", 4)
	for _, s := range []string{"a < b", "a < - b . c", "f ( a", "{ a : 1", "[ a", "( a", "- a [", "a . b", "a && b < c"} {
		everyRow(t, "Or", s, 3)
	}
}

// writer writes a random tree as a source, and notes in the tree where each node stands.
type writer struct {
	dice   *rand.Rand
	s      string
	room   int // how many more parts there may be
	open   int
	deepAt int // the first token with which more are open than may be; -1, while there is none
}

func (w *writer) chance(of int) bool { return w.dice.Intn(of) == 0 }

// put writes a token, with blanks ahead, and is its place.
func (w *writer) put(token string) int {
	blanks := []string{" ", "\n", "\t", "\r\n", "  ", " // b\n", "\n//\n"}
	if w.chance(3) || w.s != "" && glued(w.s[len(w.s)-1], token[0]) {
		w.s += blanks[w.dice.Intn(len(blanks))]
	}
	w.s += token
	return len(w.s) - len(token)
}

// glued: might the one byte behind the other belong to one token, or begin a remark?
func glued(a, b byte) bool {
	word := func(c byte) bool {
		return c == '_' || '0' <= c && c <= '9' || 'a' <= c && c <= 'z' || 'A' <= c && c <= 'Z'
	}
	return word(a) && word(b) || a == '/' || strings.IndexByte("=!<>&|", a) >= 0 && strings.IndexByte("=&|", b) >= 0
}

// small takes room for a part: must it be one without parts?
func (w *writer) small(depth int) bool {
	w.room--
	return depth <= 0 || w.room <= 0
}

func (w *writer) enter(token string) int {
	at := w.put(token)
	w.open++
	if w.open > 24 && w.deepAt < 0 {
		w.deepAt = at
	}
	return at
}

func (w *writer) leave(token string) {
	w.put(token)
	w.open--
}

func (w *writer) name() string {
	return []string{"a", "b", "_", "len", "Fn", "x1", many("z", 20)}[w.dice.Intn(7)]
}

// value is that of a Lit, and its text.
func (w *writer) value() (api.Value, string) {
	switch w.dice.Intn(6) {
	case 0:
		return api.Value{}, "unit"
	case 1:
		return api.Value{Kind: api.Bool}, "false"
	case 2:
		return api.Value{Kind: api.Bool, N: 1}, "true"
	case 3:
		s := []string{"", "a", "(", "}", ";", "if", "\x00\xff\"\\", "//", many("k", 40)}[w.dice.Intn(9)]
		return api.Value{Kind: api.Bytes, S: s}, lex.Quote(s)
	}
	n := w.dice.Int63() >> w.dice.Intn(63)
	return api.Value{Kind: api.Int, N: n}, strconv.FormatInt(n, 10)
}

const (
	bindsUnary   = 6
	bindsReached = 7
)

// expr writes one of at most that depth, in brackets if it binds less than is asked for, or by chance.
func (w *writer) expr(depth, least int) api.Node {
	kind := w.dice.Intn(10)
	if w.small(depth) {
		kind = w.dice.Intn(2)
	}
	row := bindsReached
	sign := ""
	switch kind {
	case 2, 3, 4:
		signs := strings.Fields("|| && == != < <= > >= + - * / %")
		sign = signs[w.dice.Intn(len(signs))]
		row = binds[sign]
	case 5:
		row = bindsUnary
	}
	if row < least || w.chance(8) {
		w.enter("(")
		n := w.form(depth, kind, sign)
		w.leave(")")
		return n
	}
	return w.form(depth, kind, sign)
}

func (w *writer) form(depth, kind int, sign string) api.Node {
	switch kind {
	case 0:
		s := w.name()
		return api.Node{Kind: api.Name, Text: s, At: w.put(s)}
	case 2, 3, 4:
		left := binds[sign]
		if left == 3 {
			left = 4
		}
		n := api.Node{Kind: api.Binary, Text: sign}
		n.Kids = append(n.Kids, w.expr(depth-1, left))
		n.At = w.put(sign)
		n.Kids = append(n.Kids, w.expr(depth-1, binds[sign]+1))
		return n
	case 5:
		sign := []string{"-", "!"}[w.dice.Intn(2)]
		n := api.Node{Kind: api.Unary, Text: sign, At: w.enter(sign)}
		n.Kids = append(n.Kids, w.expr(depth-1, bindsUnary))
		w.open--
		return n
	case 6, 7:
		return w.reached(depth)
	case 8, 9:
		return w.listed(depth)
	}
	v, s := w.value()
	return api.Node{Kind: api.Lit, Val: v, At: w.put(s)}
}

func (w *writer) reached(depth int) api.Node {
	n := api.Node{Kids: []api.Node{w.expr(depth-1, bindsReached)}}
	if w.chance(2) {
		n.Kind, n.At, n.Text = api.Dot, w.put("."), w.name()
		w.put(n.Text)
		return n
	}
	n.Kind, n.At = api.At, w.enter("[")
	n.Kids = append(n.Kids, w.expr(depth-1, 1))
	w.leave("]")
	return n
}

func (w *writer) listed(depth int) api.Node {
	count := w.dice.Intn(4)
	n := api.Node{}
	switch w.dice.Intn(3) {
	case 0:
		n.Kind, n.Text = api.Call, w.name()
		n.At = w.put(n.Text)
		w.enter("(")
	case 1:
		n.Kind, n.At = api.List, w.enter("[")
	case 2:
		n.Kind, n.At = api.Fields, w.enter("{")
	}
	for i := range count {
		if i > 0 {
			w.put(",")
		}
		if n.Kind == api.Fields {
			n.Kids = append(n.Kids, w.pair(depth))
		} else {
			n.Kids = append(n.Kids, w.expr(depth-1, 1))
		}
	}
	w.leave(map[int]string{api.Call: ")", api.List: "]", api.Fields: "}"}[n.Kind])
	return n
}

func (w *writer) pair(depth int) api.Node {
	key := w.name()
	said := key
	if w.chance(2) {
		key = []string{"", "if", "}", "a", ":", many("\x01", 32)}[w.dice.Intn(6)]
		said = lex.Quote(key)
	}
	n := api.Node{Kind: api.Pair, Text: key, At: w.put(said)}
	w.put(":")
	n.Kids = []api.Node{w.expr(depth-1, 1)}
	return n
}

func (w *writer) block(depth int) api.Node {
	n := api.Node{Kind: api.Block, At: w.enter("{")}
	for range w.dice.Intn(4) {
		n.Kids = append(n.Kids, w.statement(depth))
	}
	w.leave("}")
	return n
}

func (w *writer) statement(depth int) api.Node {
	kinds := []int{api.Let, api.Set, api.Do, api.Do, api.Return, api.Break, api.Continue, api.If, api.While}
	if w.small(depth) {
		kinds = kinds[:7]
	}
	kind := kinds[w.dice.Intn(len(kinds))]
	n := api.Node{Kind: kind}
	switch kind {
	case api.If, api.While:
		return w.guarded(kind, depth)
	case api.Let:
		n.At, n.Text = w.put("let"), w.name()
		w.put(n.Text)
		if w.chance(2) {
			w.put("=")
			n.Kids = append(n.Kids, w.expr(depth, 1))
		}
	case api.Set:
		n.Text = w.name()
		n.At = w.put(n.Text)
		w.put("=")
		n.Kids = append(n.Kids, w.expr(depth, 1))
	case api.Return:
		n.At = w.put("return")
		if w.chance(2) {
			n.Kids = append(n.Kids, w.expr(depth, 1))
		}
	case api.Break, api.Continue:
		n.At = w.put(kindNames[kind])
	case api.Do:
		// Its first token is behind what blanks there are: the place is known only then.
		was := len(w.s)
		n.Kids = append(n.Kids, w.expr(depth, 1))
		l, _, _ := lex.All(w.s[was:])
		n.At = was + l[0].At
	}
	w.put(";")
	return n
}

func (w *writer) guarded(kind, depth int) api.Node {
	n := api.Node{Kind: kind, At: w.put(kindNames[kind])}
	w.put("(")
	n.Kids = append(n.Kids, w.expr(depth-1, 1))
	w.put(")")
	n.Kids = append(n.Kids, w.block(depth-1))
	if kind == api.If && w.chance(2) {
		w.put("else")
		if w.chance(2) {
			n.Kids = append(n.Kids, w.guarded(api.If, depth-1+w.dice.Intn(2)))
		} else {
			n.Kids = append(n.Kids, w.block(depth-1))
		}
	}
	return n
}

func (w *writer) program(depth int) api.Node {
	n := api.Node{Kind: api.Program}
	for range w.dice.Intn(4) {
		f := api.Node{Kind: api.Fn, Text: w.name(), Flag: w.chance(2)}
		if f.Flag {
			f.At = w.put("export")
			w.put("fn")
		} else {
			f.At = w.put("fn")
		}
		w.put(f.Text)
		w.put("(")
		for i := range w.dice.Intn(4) {
			if i > 0 {
				w.put(",")
			}
			p := w.name()
			f.Kids = append(f.Kids, api.Node{Kind: api.Param, Text: p, At: w.put(p)})
		}
		w.put(")")
		f.Kids = append(f.Kids, w.block(depth))
		n.Kids = append(n.Kids, f)
	}
	return n
}

// written is a random source, its tree, and the place at which it is too deep (-1, if nowhere).
func written(dice *rand.Rand, start string, depth int) (string, api.Node, int) {
	for {
		w := &writer{dice: dice, room: dice.Intn(200), deepAt: -1}
		var n api.Node
		if start == "Program" {
			n = w.program(depth)
		} else {
			n = w.expr(depth, 1)
		}
		if len(w.s) <= 8192 {
			return w.s, n, w.deepAt
		}
	}
}

// What was written as a tree is read as that tree.
func TestP171Written(t *testing.T) {
	dice := rand.New(rand.NewSource(171))
	read, deep := 0, 0
	for start, call := range calls {
		for i := range 12000 {
			s, want, deepAt := written(dice, start, 1+i%40)
			n, at, e := call(s)
			if deepAt >= 0 {
				deep++
				if n.Kind != 0 || at != deepAt || e != api.ErrParseDeep {
					t.Fatalf("%s of %q is %s, %d, %v, not too deep at %d", start, s, brief(n), at, e, deepAt)
				}
				continue
			}
			read++
			if !same(n, want) || at != 0 || e != api.OK {
				t.Fatalf("%s of %q is %s, %d, %v, not %s", start, s, brief(n), at, e, brief(want))
			}
		}
	}
	if read < 5000 || deep < 50 {
		t.Errorf("%d were read, %d too deep", read, deep)
	}
}

// texts are a source's tokens as they stand there.
func texts(s string) []string {
	l, _, e := lex.All(s)
	if e != api.OK {
		panic(e)
	}
	var out []string
	for _, token := range l[:len(l)-1] {
		out = append(out, spelt(token))
	}
	return out
}

func spelt(token api.Token) string {
	switch token.Kind {
	case api.TokInt:
		return strconv.FormatInt(token.N, 10)
	case api.TokBytes:
		return lex.Quote(token.Text)
	}
	return token.Text
}

// spoilt is a row of tokens with some of them gone, changed, twice there, or at each other's place.
func spoilt(dice *rand.Rand, l []string) []string {
	l = slices.Clone(l)
	for range 1 + dice.Intn(2) {
		if len(l) == 0 {
			return l
		}
		i, j := dice.Intn(len(l)), dice.Intn(len(l))
		switch dice.Intn(6) {
		case 0:
			l = slices.Delete(l, i, i+1)
		case 1:
			l[i] = alphabet[dice.Intn(len(alphabet))]
		case 2:
			l = slices.Insert(l, i, alphabet[dice.Intn(len(alphabet))])
		case 3:
			l = slices.Insert(l, i, l[j])
		case 4:
			l[i], l[j] = l[j], l[i]
		case 5:
			l = l[:i]
		}
	}
	return l
}

// Sources in which something is wrong, or not, as the second reading tells.
func TestP171Spoilt(t *testing.T) {
	dice := rand.New(rand.NewSource(172))
	tally := map[api.Errno]int{}
	for start, call := range calls {
		for i := range 4000 {
			s, _, _ := written(dice, start, 1+i%5)
			l := texts(s)
			if len(l) > 120 {
				continue
			}
			s = strings.Join(spoilt(dice, l), " ")
			asModel(t, start, s)
			_, _, e := call(s)
			tally[e]++
		}
	}
	if tally[api.OK] < 300 || tally[api.ErrParseToken] < 2000 {
		t.Errorf("what was told: %v", tally)
	}
}

// Deep ones: brackets and signs in any order, with little else.
func TestP171SpoiltDeep(t *testing.T) {
	dice := rand.New(rand.NewSource(173))
	tally := map[api.Errno]int{}
	pieces := []string{"(", "[", "{a:", "f(", "a[", "-", "!", "1+(", "-a*-", "[-a,", "(-b)&&"}
	closings := map[byte]string{'(': ")", '[': "]", ':': "}"}
	for range 600 {
		s, behind := "", ""
		for range 18 + dice.Intn(20) {
			p := pieces[dice.Intn(len(pieces))]
			s += p
			for i := range len(p) {
				behind = closings[p[i]] + behind
			}
			if p == "(-b)&&" {
				behind = behind[1:]
			}
		}
		s += "1" + behind
		asModel(t, "Or", s)
		asModel(t, "Program", "fn f() { return "+s+"; }")
		l := strings.Join(spoilt(dice, texts(s)), " ")
		asModel(t, "Or", l)
		_, _, e := parse.Expr(s)
		tally[e]++
	}
	if tally[api.OK] < 100 || tally[api.ErrParseDeep] < 100 {
		t.Errorf("what was told: %v", tally)
	}
}

// fields are what the document's row names for a kind.
func fields(n api.Node) (text, flag, val bool) {
	switch n.Kind {
	case api.Fn:
		return true, true, false
	case api.Param, api.Let, api.Set, api.Binary, api.Unary, api.Dot, api.Name, api.Call, api.Pair:
		return true, false, false
	case api.Lit:
		return false, false, true
	}
	return false, false, false
}

// every goes through all nodes of a tree.
func every(n api.Node, f func(api.Node)) {
	f(n)
	for _, k := range n.Kids {
		every(k, f)
	}
}

func TestP173OtherFieldsAreZero(t *testing.T) {
	dice := rand.New(rand.NewSource(174))
	seen := map[int]int{}
	for start, call := range calls {
		for range 2000 {
			s, _, _ := written(dice, start, 4)
			n, at, e := call(s)
			if e != api.OK {
				if !reflect.DeepEqual(n, api.Node{}) {
					t.Fatalf("beside %v stands %s", e, brief(n))
				}
				continue
			}
			if at != 0 {
				t.Fatalf("beside a tree stands %d", at)
			}
			every(n, func(n api.Node) {
				seen[n.Kind]++
				text, flag, val := fields(n)
				if !text && n.Text != "" || !flag && n.Flag || !val && !reflect.DeepEqual(n.Val, api.Value{}) {
					t.Fatalf("%q: a field too many of %s", s, brief(n))
				}
				if val && !value.Right(n.Val) {
					t.Fatalf("%q: the value of %s is not right", s, brief(n))
				}
			})
		}
	}
	for kind := api.Program; kind <= api.Dot; kind++ {
		if seen[kind] == 0 {
			t.Errorf("no %s was looked at", kindNames[kind])
		}
	}
}

// piece is where something lies in memory.
type piece struct{ from, to uintptr }

func textPiece(s string) []piece {
	if s == "" {
		return nil
	}
	from := uintptr(unsafe.Pointer(unsafe.StringData(s)))
	return []piece{{from, from + uintptr(len(s))}}
}

// pieces are all lists of a tree, with their spare room, and all its texts.
func pieces(n api.Node) []piece {
	out := slices.Concat(textPiece(n.Text), textPiece(n.Val.S))
	if cap(n.Kids) > 0 {
		from := uintptr(unsafe.Pointer(unsafe.SliceData(n.Kids)))
		out = append(out, piece{from, from + uintptr(cap(n.Kids))*unsafe.Sizeof(n)})
	}
	for _, k := range n.Kids {
		out = append(out, pieces(k)...)
	}
	return out
}

// apart: do no two of these share any?
func apart(l []piece) bool {
	sorted := slices.SortedFunc(slices.Values(l), func(a, b piece) int { return int(int64(a.from) - int64(b.from)) })
	for i := 1; i < len(sorted); i++ {
		if sorted[i].from < sorted[i-1].to {
			return false
		}
	}
	return true
}

func TestP173NewMemory(t *testing.T) {
	dice := rand.New(rand.NewSource(175))
	for start, call := range calls {
		for range 500 {
			s, want, deepAt := written(dice, start, 4)
			if deepAt >= 0 {
				continue
			}
			s = strings.Clone(s)
			a, _, _ := call(s)
			b, _, _ := call(s)
			if !apart(slices.Concat(textPiece(s), pieces(a), pieces(b))) {
				t.Fatalf("%s of %q shares memory", start, s)
			}
			overwrite(a)
			c, _, _ := call(s)
			if !same(b, want) || !same(c, want) {
				t.Fatalf("%s of %q has changed with another answer", start, s)
			}
		}
	}
}

// overwrite spoils all lists of a tree, their spare room too.
func overwrite(n api.Node) {
	for _, k := range n.Kids {
		overwrite(k)
	}
	all := n.Kids[:cap(n.Kids)]
	for i := range all {
		all[i] = api.Node{Kind: 99, Text: "spoilt", At: -1}
	}
}

// unplaced is a tree without its places, in new memory.
func unplaced(n api.Node) api.Node {
	n.At = 0
	kids := make([]api.Node, len(n.Kids))
	for i, k := range n.Kids {
		kids[i] = unplaced(k)
	}
	n.Kids = kids
	return n
}

func TestP174BlanksChangeOnlyPlaces(t *testing.T) {
	dice := rand.New(rand.NewSource(176))
	blanks := []string{" ", "\n", "\t", "\r", " // )\n", "\n//}\n//\n ", "  \t"}
	for start, call := range calls {
		for i := range 2000 {
			s, _, _ := written(dice, start, 1+i%6)
			l := texts(s)
			if i%2 == 0 {
				l = spoilt(dice, l)
			}
			tight := strings.Join(l, " ")
			n, at, e := call(tight)
			loose, places := loosened(dice, l, blanks)
			if len(loose) > 8192 {
				continue
			}
			m, atLoose, eLoose := call(loose)
			if e != eLoose || !same(unplaced(n), unplaced(m)) {
				t.Fatalf("%s of %q is %s, %v, of %q %s, %v", start, tight, brief(n), e, loose, brief(m), eLoose)
			}
			// The places are those of the same tokens.
			tokens, _, _ := lex.All(tight)
			moved := map[int]int{0: 0}
			for i, token := range tokens {
				moved[token.At] = places[i]
			}
			if e != api.OK && atLoose != moved[at] {
				t.Fatalf("%s of %q is %v at %d, of %q at %d", start, tight, e, at, loose, atLoose)
			}
			if e == api.OK && !same(replaced(n, moved), m) {
				t.Fatalf("%s of %q is %s, of %q %s", start, tight, brief(n), loose, brief(m))
			}
		}
	}
}

// loosened are tokens with blanks between, and the place of each, the end's last.
func loosened(dice *rand.Rand, l []string, blanks []string) (string, []int) {
	s := ""
	var places []int
	for _, token := range append(slices.Clone(l), "") {
		// A remark right behind the sign / would begin with that sign.
		s += " "
		for range dice.Intn(4) {
			s += blanks[dice.Intn(len(blanks))]
		}
		places = append(places, len(s))
		s += token
	}
	return s, places
}

// replaced is a tree with other places; a Program's is 0.
func replaced(n api.Node, moved map[int]int) api.Node {
	if n.Kind != api.Program {
		n.At = moved[n.At]
	}
	kids := make([]api.Node, len(n.Kids))
	for i, k := range n.Kids {
		kids[i] = replaced(k, moved)
	}
	n.Kids = kids
	return n
}

// Behind a token that can't stand there nothing helps; and ahead of it all may go on.
func TestP175NothingGoesOn(t *testing.T) {
	dice := rand.New(rand.NewSource(177))
	met := 0
	for start, call := range calls {
		for i := range 2000 {
			s, _, _ := written(dice, start, 1+i%5)
			l := spoilt(dice, texts(s))
			s = strings.Join(l, " ")
			_, at, e := call(s)
			if e != api.ErrParseToken || at == len(s) {
				continue
			}
			met++
			other, _, _ := written(dice, start, 3)
			tokens, _, _ := lex.All(s)
			count := slices.IndexFunc(tokens, func(token api.Token) bool { return token.At == at })
			ahead := strings.Join(l[:count+1], " ")
			rest := spoilt(dice, l[count+1:])
			for _, behind := range []string{"", " " + strings.Join(rest, " "), " " + other, " ; }", " ) ; }", " a", " 1 ] }"} {
				if n, again, e := call(ahead + behind); n.Kind != 0 || again != at || e != api.ErrParseToken {
					t.Fatalf("%s of %q is %s, %d, %v, not a fault at %d", start, ahead+behind, brief(n), again, e, at)
				}
			}
		}
	}
	if met < 1000 {
		t.Errorf("%d had such a fault", met)
	}
}

// Each beginning of a source that is read ends where something lacks, or is read.
func TestP175EachBeginning(t *testing.T) {
	dice := rand.New(rand.NewSource(178))
	for start, call := range calls {
		for i := range 600 {
			s, _, deepAt := written(dice, start, 1+i%5)
			if deepAt >= 0 {
				continue
			}
			l := texts(s)
			for count := range len(l) {
				ahead := strings.Join(l[:count], " ")
				if n, at, e := call(ahead); e != api.OK && (n.Kind != 0 || at != len(ahead) || e != api.ErrParseToken) {
					t.Fatalf("%s of %q is %s, %d, %v, not a fault at its end", start, ahead, brief(n), at, e)
				}
			}
		}
	}
}

// Sources as long as may be, of one thing again and again.
func TestR1LongSources(t *testing.T) {
	for _, s := range []string{
		many("a+", 4095) + "a", many("a.b.", 2047) + "c", "[" + many("1,", 4094) + "1]", "a" + many("[0]", 2730), "f(" + many("a||", 2729) + "a)", many("a*", 4000) + "-1", "{" + many("a:1,", 2040) + "a:1}",
	} {
		if n, at, e := parse.Expr(s); at != 0 || e != api.OK || n.Kind == 0 {
			t.Errorf("%.20s of %d bytes: %d, %v", s, len(s), at, e)
		}
	}
	for _, s := range []string{
		"fn f(){" + many("if(a){}else ", 680) + "{}}", "fn f(){" + many("a;", 4000) + "}", "fn f(){" + many("if(a){}", 1100) + "}", "fn f(){return " + many("a-", 4080) + "a;}", "fn f(" + many("a,", 4090) + "a){}",
	} {
		if n, at, e := parse.Program(s); at != 0 || e != api.OK || len(n.Kids) != 1 {
			t.Errorf("%.20s of %d bytes: %d, %v", s, len(s), at, e)
		}
	}
	for _, token := range append(slices.Clone(alphabet), "unit", "continue", `""`, "//", "\n", "%", "!=", "é", `"`, "\\", "\x00", "\xff") {
		for _, count := range []int{1, 24, 25, 26, 8192 / len(token), 8193, 1 << 20} {
			for start, call := range calls {
				s := many(token, count)
				n, at, e := call(s)
				if e != api.OK && (n.Kind != 0 || at < 0 || at > len(s)) || e == api.OK && at != 0 {
					t.Errorf("%s of %d times %q is %s, %d, %v", start, count, token, brief(n), at, e)
				}
			}
		}
	}
}

// Each byte of a source changed to each other one.
func TestR1EveryByteChanged(t *testing.T) {
	source := `export fn f(a, b) { let c = -a[0].k; if (!(a < b)) { x = {a: 1, "b": [f()]}; } else { return; } while (a && b) { break; } }`
	for i := range len(source) {
		for c := range 256 {
			s := source[:i] + string([]byte{byte(c)}) + source[i+1:]
			n, at, e := parse.Program(s)
			if e != api.OK && (n.Kind != 0 || at < 0 || at > len(s)) || e == api.OK && (at != 0 || n.Kind != api.Program) {
				t.Fatalf("%q is %s, %d, %v", s, brief(n), at, e)
			}
			if c >= 0x20 && c < 0x7f && (i+c)%7 == 0 {
				asModel(t, "Program", s)
			}
		}
	}
}

// Calls side by side, on whatever sources, tell what they tell alone.
func TestR4NothingIsKept(t *testing.T) {
	dice := rand.New(rand.NewSource(179))
	var sources []string
	for i := range 200 {
		s, _, _ := written(dice, "Program", 1+i%8)
		sources = append(sources, s, strings.Join(spoilt(dice, texts(s)), " "))
	}
	told := func() string {
		out := ""
		for _, s := range sources {
			n, at, e := parse.Program(s)
			m, place, f := parse.Expr(s)
			out += fmt.Sprintln(show(n), at, e, show(m), place, f)
		}
		return out
	}
	want := told()
	done := make(chan bool)
	for range 8 {
		go func() { done <- told() == want }()
	}
	for range 8 {
		if !<-done {
			t.Errorf("something else is told")
		}
	}
}
