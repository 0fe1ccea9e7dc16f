package shell_test

import (
	"fmt"
	"strings"
	"testing"

	"scruple/api"
	"scruple/hash"
	"scruple/shell"
)

// lined is a text whose lines are parted by strokes.
func lined(s string) string { return strings.ReplaceAll(s, "|", "\n") }

// run is what a script tells whose lines are parted by strokes, with strokes for its lines' ends; or its error, and the
// line.
func run(t *testing.T, s string) string {
	t.Helper()
	told, line, e := shell.Run(lined(s))
	if e == api.OK {
		if line != 0 {
			t.Errorf("P24.1: %.200s: the line is %d, with no error", s, line)
		}
		return strings.ReplaceAll(told, "\n", "|")
	}
	if told != "" {
		t.Errorf("P24.1: %.200s: %.100q is told beside an error", s, told)
	}
	return fmt.Sprintf("error %d, line %d", int(e), line)
}

// meets holds what scripts tell against a table.
func meets(t *testing.T, table map[string]string) {
	t.Helper()
	for s, want := range table {
		if got := run(t, s); got != want {
			t.Errorf("P24.1: %.300s: %.300s, want %.300s", s, got, want)
		}
	}
}

// behind holds what lines tell behind others, each by itself.
func behind(t *testing.T, first string, table map[string]string) {
	t.Helper()
	ahead := run(t, first)
	for s, want := range table {
		got, ok := strings.CutPrefix(run(t, first+"|"+s), ahead)
		if !ok || got != want {
			t.Errorf("P24.1: behind %.200s: %.300s: %.300s, want %.300s", first, s, got, want)
		}
	}
}

const noEntries = "SST1\x00"

func TestExamples(t *testing.T) {
	meets(t, map[string]string{
		`source m|export fn f(a) { save("k", a); return a + 1; }|.|call m f 99 [4]|get "k"|entries`:           `ok|ok 5 used 36|4|"k" 4|.|`,
		`asm m|.const 7|.func 0 0 1|const 0|ret|.export f 0|.|show m|hex m|trace m f 9 1 []|trace m f 9 9 []`: `ok|.const 7|.func 0 0 1|const 0|ret|.export f 0|.|53434d31010301030e02080100000103010009030401016600|at 0 2 height 1 left 8 steps 1|ok 7 steps 2|`,
		`bid 0 0 5 m f 9 []|bid 1 0 6 m f 9 []|bid 0 0 5 m f 9 []|batch 9`:                                    `ok|ok|error 231|1 0 error 221|0 0 error 221|done 2|`,
		`modules|digest|get "k"|call m f 9 []`:                                                                `none|` + hash.Hex(hash.Sum([]byte(noEntries))) + `|none|error 221|`,
		`form|fn f(){}|.`:                                                                                     `fn f() {|}|.|`, `form|fn f(|.`: `error 170 at 6|`,
		`call m f 9`: `error 241, line 1`, `call m f -9 []`: `error 241, line 1`, `get 5`: `error 241, line 1`, `source m`: `error 241, line 1`, `foo`: `error 241, line 1`,
	})
}

// TestExamplesOfTheWhole: those of DOC.md that a script can say.
func TestExamplesOfTheWhole(t *testing.T) {
	meets(t, map[string]string{
		`source m|export fn f(a) { return a + 1; }|.|show m|hex m|call m f 100 [41]|call m f 7 [41]|call m f 6 [41]|call m f 100 ["x"]|call m f 100 []|trace m f 100 9 [41]|trace m f 6 9 [41]`: `ok|.const 1|.const unit|.func 1 1 2|get 0|const 0|add|ret|const 1|ret|.export f 0|.|` +
			`53434d31` + `01040203` + `0200` + `020e01010102` + `09` + `020001000a09010109` + `030401016600` + `|ok 42 used 7|ok 42 used 7|spent used 6|trap type used 7|trap arity used 0|ok 42 steps 4|spent steps 3|`,
		`source m|export fn g() { save("k", 1); return load("k"); }|.|call m g 100 []|get "k"`:                                                                           `ok|ok 1 used 44|1|`,
		`source s|export fn k() { save("k", 1); }|.|source m|export fn h() { save("k", 2); abort(unit); }|.|call s k 99 []|digest|call m h 99 []|get "k"|digest|entries`: `ok|ok|ok unit used 31|` + oneEntry + `|trap abort used 31|1|` + oneEntry + `|"k" 1|.|`,
		`module m 53434d3101010002070100000002` + `0a09` + `030100`:                                                                                                      `error 124 at 0|`,
		`form|fn f(){return(1+2)*3;}|.`:                                    "fn f() {|\treturn (1 + 2) * 3;|}|.|",
		`bid 0 0 5 m f 9 []|bid 1 0 9 m f 9 []|bid 1 1 9 m f 9 []|batch 9`: `ok|ok|ok|1 0 error 221|1 1 error 221|0 0 error 221|done 3|`,
	})
}

// oneEntry is the digest of a state whose one entry is k: 1.
var oneEntry = hash.Hex(hash.Sum([]byte("SST1\x01\x01k\x03\x02")))

// deployed are modules that scripts call: m has an export for each way to end.
const deployed = `source m|` +
	`export fn id(a) { return a; } export fn unit0() { } export fn two(a, b) { return [a, b]; } fn inner() { }` +
	` export fn divide(a) { return 1 / a; } export fn index(a) { return a[0]; } export fn type(a) { return a.k; }` +
	` export fn deep(a) { return deep(a); } export fn pair(a) { return [a, a]; } export fn one(a) { return [a]; } export fn stop(a) { abort(a); }` +
	` export fn put(k, v) { save(k, v); } export fn bad(k) { save(k, 1); abort(k); } export fn take(k) { return load(k); } export fn lose(k) { return drop(k); }` +
	` export fn turn() { while (true) { } }|.`

func TestP241Calls(t *testing.T) {
	half := `"` + strings.Repeat("h", 1100) + `"`
	nest := strings.Repeat("[", 7) + strings.Repeat("]", 7)
	behind(t, deployed, map[string]string{
		"":                                                   "",
		"call m id 9 [5]":                                    "ok 5 used 2|",
		"call m id 2 [5]":                                    "ok 5 used 2|",
		"call m id 1 [5]":                                    "spent used 1|",
		"call m id 0 [5]":                                    "spent used 0|",
		"call m id 1000000 [-5]":                             "ok -5 used 2|",
		"call m id 1000001 [5]":                              "error 2|",
		"call m id 999999999 []":                             "error 2|",
		"call m id 9 [unit]":                                 "ok unit used 2|",
		"call m id 9 [true]":                                 "ok true used 2|",
		"call m id 9 [false]":                                "ok false used 2|",
		`call m id 9 ["a  b "]`:                              `ok "a  b " used 2|`,
		`call m id 9 ["\x00\"\\"]`:                           `ok "\x00\"\\" used 2|`,
		`call m id 9 [[1, [2]]]`:                             `ok [1, [2]] used 2|`,
		`call m id 9 [{"": {}, "a": []}]`:                    `ok {"": {}, "a": []} used 2|`,
		"call m id 9 [-9223372036854775808]":                 "ok -9223372036854775808 used 2|",
		"call m two 99 [1, \"a\"]":                           `ok [1, "a"] used 8|`,
		"call m unit0 9 []":                                  "ok unit used 2|",
		"call m divide 99 [0]":                               "trap divide used 5|",
		"call m index 99 [[]]":                               "trap index used 4|",
		"call m type 99 [unit]":                              "trap type used 3|",
		"call m deep 999 [1]":                                "trap depth used 288|",
		"call m pair 9999 [" + half + "]":                    "trap size used 2206|",
		"call m one 99 [" + nest + "]":                       "ok [" + nest + "] used 11|",
		`call m type 99 [{"j": 1}]`:                          "trap key used 3|",
		"call m id 99 []":                                    "trap arity used 0|",
		"call m id 99 [1, 2]":                                "trap arity used 0|",
		"call m stop 99 [1]":                                 "trap abort used 2|",
		`call m put 99 ["", 1]`:                              "trap store used 26|",
		"call m turn 1000000 []":                             "spent used 1000000|",
		"call m inner 9 []":                                  "error 140|",
		"call m none 9 []":                                   "error 140|",
		"call m é 9 []":                                      "error 140|",
		"call n id 9 [5]":                                    "error 221|",
		"call . ; 9 []":                                      "error 221|",
		"  call   m  id   9    [5]   ":                       "ok 5 used 2|",
		"call m id 9 [5]|call m id 9 [6]":                    "ok 5 used 2|ok 6 used 2|",
		`call m put 99 ["k", 5]|call m take 99 ["k"]`:        "ok unit used 31|ok 5 used 15|",
		`call m put 99 ["k", 5]|call m bad 99 ["k"]|get "k"`: `ok unit used 31|trap abort used 31|5|`,
		`call m put 30 ["k", 5]|get "k"`:                     `spent used 30|none|`,
		`call m put 27 ["k", 5]|get "k"`:                     `spent used 27|none|`,
		`call m put 31 ["k", 5]|get "k"`:                     `ok unit used 31|5|`,
		`call m put 99 ["k", 5]|call m lose 99 ["k"]|call m lose 99 ["k"]|entries`: `ok unit used 31|ok true used 14|ok false used 14|.|`,
	})
}

func TestP241Deployments(t *testing.T) {
	const small = "53434d31" + "010100" + "02070100000102" + "0109" // its third section lacks
	meets(t, map[string]string{
		"source m|.":                          "ok|",
		"source m||.":                         "ok|",
		"source m|fn f() { }|.":               "ok|",
		"source m|fn f() {|}||; x|.":          "error 170 at 12|",
		"source m|fn f() {|}||// x|.|modules": "ok|m|",
		"source m|fn f() { x; }|.":            "error 192 at 9|",
		"source m||fn f() { x; }|.":           "error 192 at 10|",
		"source m|fn f() {|.":                 "error 170 at 9|", // behind the 0A of its last line
		"source m|#|.":                        "error 161 at 0|",
		"source m|fn f(a, b, c, d, e, f, g, h, i) { }|.|modules":                                  "error 196 at 0|none|",
		"source 1m|.|source é|.|source m;|.":                                                      "error 220 at 0|error 220 at 0|error 220 at 0|",
		"source ;|.|source .|.":                                                                   "error 220 at 0|error 220 at 0|",
		"source m|.|source m|.|source m|#|.":                                                      "ok|error 220 at 0|error 220 at 0|",
		"  source   m   |.":                                                                       "ok|",
		"source " + strings.Repeat("m", 20) + "|.":                                                "ok|",
		"source " + strings.Repeat("m", 21) + "|.":                                                "error 220 at 0|",
		"source m|" + strings.Repeat(" ", 8191) + "|.":                                            "ok|",
		"source m|" + strings.Repeat(" ", 8192) + "|.":                                            "error 160 at 0|", // with its 0A one byte too many
		"source m|fn f() { return " + strings.Repeat("[", 25) + strings.Repeat("]", 25) + "; }|.": "error 171 at 39|",
		"asm m|.":                                     "ok|",
		"asm m|foo|.":                                 "error 101 at 1|",
		"asm m||; x|ret|.|modules":                    "error 101 at 3|none|",
		"asm m|.func 0 0 1|jump x|.":                  "error 102 at 2|",
		"asm m|.func 0 0 41|.":                        "error 102 at 0|",
		"asm m|.func 0 0 1|.bytes 0a09|.":             "error 124 at 0|",
		"asm m|.const 1|.func 0 0 1|const 0|.":        "error 127 at 0|",
		"asm 1m|.":                                    "error 220 at 0|",
		"asm 1m|foo|.":                                "error 101 at 1|",
		"asm m|.|asm m|.|source m|.":                  "ok|error 220 at 0|error 220 at 0|",
		"module m 53434d31010100020100030100|modules": "ok|m|",
		"module m 5343":                               "error 224 at 0|",
		"module m 53434d32":                           "error 224 at 0|",
		"module m 53434d310101":                       "error 224 at 5|",
		"module m 53434d3101010002010003010000":       "error 224 at 13|",
		"module m " + small:                           "error 224 at 16|",
		"module 1m 5343":                              "error 220 at 0|",
		"module m 00|module m 53434d31010100020100030100|module m 53434d31010100020100030100": "error 224 at 0|ok|error 220 at 0|",
	})
}

// TestP241Full: the seventeenth module has no place, of whichever kind.
func TestP241Full(t *testing.T) {
	var all, told, names string
	for i := range 16 {
		all += fmt.Sprintf([]string{"source %c|.|", "asm %c|.|", "module %c 53434d31010100020100030100|"}[i%3], 'a'+i)
		told += "ok|"
		names += fmt.Sprintf(" %c", 'a'+i)
	}
	for s, want := range map[string]string{"source q|.": "error 222 at 0|", "asm q|.": "error 222 at 0|", "module q 00": "error 222 at 0|", "source 1|.": "error 220 at 0|", "source a|.": "error 220 at 0|"} {
		if got := run(t, all+s+"|modules"); got != told+want+names[1:]+"|" {
			t.Errorf("P24.1: %s behind 16 modules: %s", s, got)
		}
	}
}

// TestP241Bodies: a body is the lines up to the first one that is just a dot, each with 0A behind it.
func TestP241Bodies(t *testing.T) {
	meets(t, map[string]string{
		"form|.":                         ".|",
		"form|.|.":                       "error 241, line 3",
		"form||.":                        ".|",
		"form| .|.":                      "error 170 at 1|",
		"form|. |.":                      "error 170 at 0|",
		"form|..|.":                      "error 170 at 0|",
		"form|.;|.":                      "error 170 at 0|",
		"form|\t.|.":                     "error 170 at 1|",
		"form|.\r|.":                     "error 170 at 0|",
		"form|fn f(|) {|}|.":             "fn f() {|}|.|",
		"form|fn|f|(|)|{|}|.":            "fn f() {|}|.|",
		"form|fn f() { }fn g() { }|.":    "fn f() {|}||fn g() {|}|.|",
		"form|modules|.":                 "error 170 at 0|",
		"form|; x|.":                     "error 170 at 0|",
		"form|call m f 9|.|modules":      "error 170 at 0|none|",
		"form|fn f() {|\treturn;|}|.":    "fn f() {|\treturn;|}|.|",
		"form|fn f() { \"|\"; }|.":       "error 163 at 9|", // bytes don't go on over a line's end
		"  form  |fn f() { 1; }|.":       "fn f() {|\t1;|}|.|",
		"form|source m|.|modules|form|.": "error 170 at 0|none|.|",
		"source m|export fn f() { return 1; }|.|call m f 9 []|.": "error 241, line 5",
		"source m|form|.|call m f 9 []":                          "error 170 at 0|error 221|",
		"asm m|.const 1|source n|.|modules":                      "error 101 at 2|none|",
		"form|" + strings.Repeat("|", 8193) + ".":                "error 160 at 0|",
		"form|" + strings.Repeat("|", 8192) + ".":                ".|",
	})
	for _, s := range []string{"source m", "asm m", "form"} {
		meets(t, map[string]string{
			s:                         "error 241, line 1",
			s + "|":                   "error 241, line 1",
			s + "|..|. | .|.\r|":      "error 241, line 1",
			"modules|;|" + s + "|x":   "error 241, line 3",
			s + "|.|" + s + "|":       "error 241, line 3",
			s + "|" + s + "|.|foo":    "error 241, line 4",
			s + "|foo|get|.|foo":      "error 241, line 5",
			"|" + s + " x|.":          "error 241, line 2",
			"|" + s + " x":            "error 241, line 2",
			"modules||" + s + " .|.|": "error 241, line 3",
		})
	}
}

func TestP241Form(t *testing.T) {
	meets(t, map[string]string{
		"form|fn f(){return(1+2)*3;}export fn g(a){if(a){b=1;}else if(!a){}}|.": "fn f() {|\treturn (1 + 2) * 3;|}||export fn g(a) {|\tif (a) {|\t\tb = 1;|\t} else if (!a) {|\t}|}|.|",
		"form|fn f() { x; g(); }|.":                           "fn f() {|\tx;|\tg();|}|.|", // names need not mean something
		"form|fn f() {|.":                                     "error 170 at 9|",
		"form|fn f() { x @; }|.":                              "error 161 at 11|",
		"form|fn f() { 01; }|.":                               "error 162 at 9|",
		"form|fn f() { \"\\n\"; }|.":                          "error 163 at 9|",
		"form|fn " + strings.Repeat("f", 21) + "() { }|.":     "error 164 at 3|",
		"form|fn f() { " + strings.Repeat("-", 24) + "1; }|.": "error 171 at 32|",
		"form|" + strings.Repeat("x", 8192) + "|.":            "error 160 at 0|",
	})
}

// nested is a module whose f calls g.
const nested = "source m|export fn f(a) { return g(a) + 1; } fn g(b) { let c = b; return c; } export fn put(k, v) { save(k, v); return load(k); } export fn stop(a) { abort(a); }|."

// TestP241Trace: what is seen of a machine behind each of its steps, and at each limit of its gas.
func TestP241Trace(t *testing.T) {
	steps := []string{
		"at 0 0 height 0 left 99 steps 0",
		"at 0 2 height 1 left 98 steps 1", // get 0
		"at 1 0 height 0 left 90 steps 2", // call 1: 8
		"at 1 2 height 1 left 89 steps 3", // get 0
		"at 1 4 height 0 left 88 steps 4", // set 1
		"at 1 6 height 1 left 87 steps 5", // get 1
		"at 0 4 height 1 left 86 steps 6", // ret
		"at 0 6 height 2 left 85 steps 7", // const 0
		"at 0 7 height 1 left 81 steps 8", // add: 2, and 1 for each Int
		"ok 6 steps 9",
	}
	table := map[string]string{}
	for i, seen := range steps {
		table[fmt.Sprintf("trace m f 99 %d [5]", i)] = seen + "|"
	}
	for gas, want := range map[int]int{0: 0, 1: 1, 8: 1, 9: 2, 10: 3, 12: 5, 14: 7, 15: 7, 17: 7, 18: 8} {
		table[fmt.Sprintf("trace m f %d 99 [5]", gas)] = fmt.Sprintf("spent steps %d|", want)
	}
	behind(t, nested, table)
	behind(t, nested, map[string]string{
		"trace m f 19 9 [5]":                 "ok 6 steps 9|",
		"trace m f 19 10 [5]":                "ok 6 steps 9|",
		"trace m f 1000000 999999999 [5]":    "ok 6 steps 9|",
		"trace m f 1000000 0 [5]":            "at 0 0 height 0 left 1000000 steps 0|",
		"trace m f 0 0 [5]":                  "at 0 0 height 0 left 0 steps 0|",
		"trace m f 0 1 [5]":                  "spent steps 0|",
		"trace m f 9 3 [5]":                  "spent steps 2|",
		"trace m f 9 2 [5]":                  "at 1 0 height 0 left 0 steps 2|",
		"trace m f 99 99 [unit]":             "trap type steps 8|",
		"trace m f 99 99 []":                 "trap arity steps 0|",
		"trace m f 99 0 [1, 2]":              "trap arity steps 0|",
		"trace m stop 99 99 [1]":             "trap abort steps 2|",
		"trace m stop 99 1 [1]":              "at 3 2 height 1 left 98 steps 1|",
		"trace n f 99 9 [5]":                 "error 221|",
		"trace m g 99 9 [5]":                 "error 140|",
		"trace m f 1000001 9 [5]":            "error 2|",
		"trace m g 1000001 9 [5]":            "error 2|", // of step.New's errors the first
		"trace n g 1000001 9 [5]":            "error 221|",
		"  trace   m  f    19   9   [5]  ":   "ok 6 steps 9|",
		`trace m put 99 99 ["k", 2]`:         "ok 2 steps 7|",
		`trace m put 99 3 ["k", 2]|get "k"`:  "at 2 5 height 1 left 71 steps 3|none|",
		`trace m put 99 99 ["k", 2]|entries`: "ok 2 steps 7|.|",
		`trace m put 29 99 ["k", 2]|entries`: "spent steps 4|.|",
	})
	// A trace sees what the chain's store has, and leaves it as it is.
	const reader = "source m|export fn put(k, v) { save(k, v); } export fn move(k) { let v = load(k); save(k, 1); drop(\"b\"); save(\"c\", 2); return [v, load(k), after(k)]; }|.|call m put 99 [\"a\", 5]|call m put 99 [\"b\", 6]"
	behind(t, reader, map[string]string{
		`trace m move 999 99 ["a"]|entries`:                             `ok [5, 1, "c"] steps 21|"a" 5|"b" 6|.|`,
		`trace m move 999 99 ["a"]|trace m move 999 99 ["a"]`:           `ok [5, 1, "c"] steps 21|ok [5, 1, "c"] steps 21|`,
		`call m move 999 ["a"]|trace m move 999 99 ["a"]|entries`:       `ok [5, 1, "c"] used 122|ok [1, 1, "c"] steps 21|"a" 1|"c" 2|.|`,
		`trace m move 999 99 ["a"]|call m move 999 ["a"]|digest|digest`: `ok [5, 1, "c"] steps 21|ok [5, 1, "c"] used 122|` + strings.Repeat(hash.Hex(hash.Sum([]byte("SST1\x02\x01a\x03\x02\x01c\x03\x04")))+"|", 2),
	})
}

// TestP241TraceLong: a trace is as long as the gas lets it be.
func TestP241TraceLong(t *testing.T) {
	behind(t, deployed, map[string]string{
		"trace m turn 1000000 999999999 []": "spent steps 750000|", // const, unless, jump: 1, 2, 1
		"trace m turn 1000000 749999 []":    "at 15 5 height 0 left 1 steps 749999|",
		"trace m deep 1000 999 [1]":         "trap depth steps 64|", // the call that traps is paid, too
	})
}

func TestP241Bids(t *testing.T) {
	act := " m put 99 [\"k\", 1]"
	meets(t, map[string]string{
		"batch 0": "done 0|", "batch 1": "done 0|", "batch 999999999": "done 0|",
		"bid 0 0 0 m f 0 []|batch 0":                                               "ok|done 0|",
		"bid 0 0 0 m f 0 []|batch 1|batch 1":                                       "ok|0 0 error 221|done 1|done 0|",
		"bid 7 0 1000000 m f 0 []|batch 9":                                         "ok|7 0 error 221|done 1|",
		"bid 8 0 0 m f 0 []|batch 9":                                               "error 230|done 0|",
		"bid 999999999 0 0 m f 0 []":                                               "error 230|",
		"bid 0 16 0 m f 0 []":                                                      "error 230|",
		"bid 0 0 1000001 m f 0 []":                                                 "error 230|",
		"bid 0 15 0 m f 0 []|batch 9":                                              "ok|done 0|", // its turn has not come
		"bid 0 0 0 m f 0 [1, 2, 3, 4, 5, 6, 7, 8]":                                 "ok|",
		"bid 0 0 0 m f 0 [1, 2, 3, 4, 5, 6, 7, 8, 9]":                              "error 230|",
		"bid 0 0 0 m f 999999999 []|batch 9":                                       "ok|0 0 error 221|done 1|",
		"bid 0 0 5 m f 9 []|bid 0 0 5 m f 9 []|bid 0 0 4 m f 9 []":                 "ok|error 231|error 231|",
		"bid 0 0 5 m f 9 []|bid 0 0 6 n f 9 []|batch 9":                            "ok|ok|0 0 error 221|done 1|",
		"bid 0 1 9 m f 9 []|bid 0 0 1 m f 9 []|batch 9":                            "ok|ok|0 0 error 221|0 1 error 221|done 2|",
		"bid 0 0 0 m f 0 []|batch 9|bid 0 0 9 m f 0 []":                            "ok|0 0 error 221|done 1|error 230|",
		"bid 0 0 0 m f 0 []|batch 9|bid 0 16 9 m f 0 []|bid 0 17 9 m f 0 []":       "ok|0 0 error 221|done 1|ok|error 230|",
		"bid 2 0 1 m f 9 []|bid 1 0 2 m f 9 []|bid 0 0 1 m f 9 []|batch 2|batch 2": "ok|ok|ok|1 0 error 221|0 0 error 221|done 2|2 0 error 221|done 1|",
		"bid 3 0 1 m f 9 []|modules|entries|batch 1":                               "ok|none|.|3 0 error 221|done 1|",
	})
	behind(t, nested, map[string]string{
		"bid 0 0 1" + act + "|get \"k\"|batch 1|get \"k\"":                                                                   "ok|none|0 0 ok 1 used 44|done 1|1|",
		"bid 5 0 1 m f 18 [5]|bid 5 1 1 m f 19 [5]|bid 5 2 0 m f 9 []|bid 5 3 0 m g 9 []|bid 5 4 0 m f 1000001 []|batch 9":   "ok|ok|ok|ok|ok|5 0 spent used 18|5 1 ok 6 used 19|5 2 trap arity used 0|5 3 error 140|5 4 error 2|done 5|",
		`bid 1 0 9 m put 99 ["a", [1]]|bid 0 0 8 m put 99 ["a", 2]|bid 1 1 1 m stop 9 ["x"]|batch 2|entries|batch 2|entries`: `ok|ok|ok|1 0 ok [1] used 47|0 0 ok 2 used 44|done 2|"a" 2|.|1 1 trap abort used 2|done 1|"a" 2|.|`,
		`bid 1 0 9 m put 99 ["a  b", " "]|batch 1|entries`:                                                                   `ok|1 0 ok " " used 56|done 1|"a  b" " "|.|`,
	})
	// The module may come when the bid is there already.
	meets(t, map[string]string{
		"bid 0 0 1 m f 99 [5]|" + nested + "|batch 1": "ok|ok|0 0 ok 6 used 19|done 1|",
	})
}

// TestP241Room: a pool has room for 64 bids.
func TestP241Room(t *testing.T) {
	var all, told, taken string
	for i := range 64 {
		all += fmt.Sprintf("bid %d %d 1 m f 9 []|", i%8, i/8)
		told += "ok|"
		taken += fmt.Sprintf("%d %d error 221|", i/8, i%8) // of bids of one fee the least sender's
	}
	for s, want := range map[string]string{
		"bid 0 8 9 m f 9 []|batch 64":                                   "error 232|" + taken + "done 64|",
		"bid 0 7 2 m f 9 []|bid 0 7 2 m f 9 []|batch 99":                "ok|error 231|" + taken + "done 64|",
		"batch 1|bid 0 8 9 m f 9 []|bid 0 9 9 m f 9 []|batch 1|batch 0": "0 0 error 221|done 1|ok|error 232|0 1 error 221|done 1|done 0|",
	} {
		if got := run(t, all+s); got != told+want {
			t.Errorf("P24.1: 64 bids, %s: %s", s, got)
		}
	}
}

// TestP241Modules: what show, hex and modules tell.
func TestP241Modules(t *testing.T) {
	behind(t, nested, map[string]string{
		"show m":    ".const 1|.const unit|.func 1 1 2|get 0|call 1|const 0|add|ret|const 1|ret|.func 1 2 1|get 0|set 1|get 1|ret|const 1|ret|.func 2 2 2|get 0|get 1|save|pop|get 0|load|ret|const 1|ret|.func 1 1 1|get 0|abort|pop|const 1|ret|.export f 0|.export put 2|.export stop 3|.|",
		"show n":    "error 221|",
		"hex n":     "error 221|",
		"show é":    "error 221|",
		"  hex  . ": "error 221|",
		"modules":   "m|",
		"source b|.|asm M|.|source a_1|.|modules": "ok|ok|ok|M a_1 b m|",
		"source m|.|show n|modules":               "error 220 at 0|error 221|m|",
	})
	meets(t, map[string]string{
		"source m|.|show m|hex m":                                   "ok|.|53434d31010100020100030100|",
		"asm m| .func  0 0 1|; x|const 0|":                          "error 241, line 1",
		"asm m| .const   {}||.func  0 0 1|; x|const 0|ret|.|show m": "ok|.const {}|.func 0 0 1|const 0|ret|.|",
		"asm m|.const \"; x\"|.|show m|hex m":                       `ok|.const "; x"|.|53434d31` + `010601` + `04033b2078` + `0201000301` + `00|`,
	})
}

// TestP241ShowLong: a module may be there whose text is too long.
func TestP241ShowLong(t *testing.T) {
	dead := "|.func 0 0 1|const 0|ret|.bytes " + strings.Repeat("20", 3900)
	s := "asm m|.const 1" + strings.Repeat(dead, 3) + "|.|show m|trace m f 1 1 []|modules"
	if got, want := run(t, s), "ok|error 100|error 140|m|"; got != want {
		t.Errorf("P24.1: %.300s, want %s", got, want)
	}
}

// TestP241Store: what get, entries and digest tell.
func TestP241Store(t *testing.T) {
	digest := func(bytes string) string { return hash.Hex(hash.Sum([]byte("SST1"+bytes))) + "|" }
	long := strings.Repeat("k", 32)
	behind(t, deployed, map[string]string{
		"entries": ".|", "digest": digest("\x00"), "get \"\"": "none|", `get "` + long + `k"`: "none|",
		`call m put 99 ["b", [1, true]]|call m put 99 ["a", {"x  y": unit}]|call m put 99 ["\x00\"", "\xff"]|entries|get "b"|get "a"|get   "\x00\""  |get "B"`://
		`ok unit used 35|ok unit used 43|ok unit used 35|"\x00\"" "\xff"|"a" {"x  y": unit}|"b" [1, true]|.|[1, true]|{"x  y": unit}|"\xff"|none|`,
		`call m put 999 ["` + long + `", unit]|get "` + long + `"|get "` + long[1:] + `"|entries`: `ok unit used 93|unit|none|"` + long + `" unit|.|`,
		`call m put 999 ["` + long + `k", unit]|entries|digest`:                                   "trap store used 92|.|" + digest("\x00"),
		`call m put 99 ["k", 1]|digest|call m put 99 ["k", 2]|digest|call m put 99 ["k", 1]|digest|call m lose 99 ["k"]|digest`://
		"ok unit used 31|" + digest("\x01\x01k\x03\x02") + "ok unit used 31|" + digest("\x01\x01k\x03\x04") + "ok unit used 31|" + digest("\x01\x01k\x03\x02") + "ok true used 14|" + digest("\x00"),
		`call m put 99 ["k", "none"]|get "k"`:    `ok unit used 39|"none"|`,
		`call m put 99 ["\x0a", "\x0a"]|entries`: `ok unit used 33|"\x0a" "\x0a"|.|`,
	})
}
