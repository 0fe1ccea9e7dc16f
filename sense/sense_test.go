package sense_test

import (
	"strings"
	"testing"

	"scruple/api"
	"scruple/parse"
	"scruple/sense"
	"scruple/value"
)

// expr is a source's.
func expr(t *testing.T, s string) api.Node {
	t.Helper()
	n, at, e := parse.Expr(s)
	if e != api.OK {
		t.Fatalf("parse.Expr of %s: %d at %d", s, e, at)
	}
	return n
}

func TestOp(t *testing.T) {
	for s, want := range map[string]int{
		"-a": api.OpNeg, "!a": api.OpNot, "a + b": api.OpAdd, "a - b": api.OpSub, "a * b": api.OpMul, "a / b": api.OpDiv, "a % b": api.OpRem,
		"a == b": api.OpEq, "a != b": api.OpNe, "a < b": api.OpLt, "a <= b": api.OpLe, "a > b": api.OpGt, "a >= b": api.OpGe,
		"[]": api.OpArray, "[a]": api.OpArray, "{}": api.OpRecord, "{a: b}": api.OpRecord, "a[b]": api.OpIndex, "a.b": api.OpField,
		"len(a)": api.OpLen, "push(a, b)": api.OpPush, "change(a, b, c)": api.OpChange, "slice(a, b, c)": api.OpSlice, "with(a, b, c)": api.OpWith,
		"without(a, b)": api.OpWithout, "keys(a)": api.OpKeys, "has(a, b)": api.OpHas, "kind(a)": api.OpKind, "digest(a)": api.OpDigest,
		"abort(a)": api.OpAbort, "load(a)": api.OpLoad, "save(a, b)": api.OpSave, "drop(a)": api.OpDrop, "after(a)": api.OpAfter,
	} {
		if op, ok := sense.Op(expr(t, s)); op != want || !ok {
			t.Errorf("Op of %s is %d, %v; want %d", s, op, ok, want)
		}
	}
	for _, s := range []string{"a", "1", `"-"`, "unit", "a && b", "a || b", "f()", "add(a, b)", "f(len(a))"} {
		if op, ok := sense.Op(expr(t, s)); op != 0 || ok {
			t.Errorf("Op of %s is %d, %v; want none", s, op, ok)
		}
	}
	for _, n := range []api.Node{{}, {Kind: api.Unary, Text: "+"}, {Kind: api.Unary}, {Kind: api.Binary, Text: "!"}, {Kind: api.Binary}, {Kind: api.Do, Text: "len"}, {Kind: api.Fn, Text: "len"}, {Kind: 99}} {
		if op, ok := sense.Op(n); op != 0 || ok {
			t.Errorf("Op of kind %d, %q is %d, %v; want none", n.Kind, n.Text, op, ok)
		}
	}
}

func TestConstant(t *testing.T) {
	for s, want := range map[string]string{
		"{}": "[]", "{b: 1, a: {c: 2}}": `["b", "a"]`, `{"": 1}`: `[""]`, `{"\x00": 1, if0: 2}`: `["\x00", "if0"]`, "a.b": `"b"`, "a.b.c": `"c"`,
		"a": "unit", "5": "unit", "[1]": "unit", "f(1)": "unit", "a[0]": "unit", "-a": "unit", "a + b": "unit", "len(a)": "unit",
	} {
		if got := value.Print(sense.Constant(expr(t, s))); got != want {
			t.Errorf("Constant of %s is %s, want %s", s, got, want)
		}
	}
	long := strings.Repeat("k", api.MaxKey)
	if got := sense.Constant(expr(t, `{"`+long+`": 1}`)); len(got.L) != 1 || got.L[0].S != long {
		t.Errorf("Constant of a long key is %s", value.Print(got))
	}
	n := expr(t, "{a: 1, b: 2}")
	sense.Constant(n).L[0].S = "x"
	if got := value.Print(sense.Constant(n)); got != `["a", "b"]` {
		t.Errorf("Constant again is %s", got)
	}
}
