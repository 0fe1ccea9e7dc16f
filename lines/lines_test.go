package lines_test

import (
	"fmt"
	"math"
	"math/rand"
	"reflect"
	"regexp"
	"slices"
	"strings"
	"testing"

	"scruple/api"
	"scruple/lines"
	"scruple/value"
)

func TestSilent(t *testing.T) {
	for line, want := range map[string]bool{
		"": true, " ": true, "   ": true, ";": true, "; x": true, ";x": true, "  ;x": true, ";;": true,
		"x": false, " x": false, "x ;": false, "x;": false, "\t": false, "\t;": false, "\r": false, ".": false, "\x00": false, "\xff": false, "\u00a0": false,
	} {
		if got := lines.Silent(line); got != want {
			t.Errorf("Silent of %q is %v", line, got)
		}
	}
}

func TestWords(t *testing.T) {
	for line, want := range map[string][]string{
		"": nil, "   ": nil, "a": {"a"}, " a ": {"a"}, "a b": {"a", "b"}, "  a   b  c ": {"a", "b", "c"}, "a\tb": {"a\tb"}, "a\u00a0b\n c\r": {"a\u00a0b\n", "c\r"}, "\xff \x00": {"\xff", "\x00"}, ";x y": {";x", "y"},
	} {
		if got := lines.Words(line); !slices.Equal(got, want) {
			t.Errorf("Words of %q are %q, want %q", line, got, want)
		}
	}
}

func TestCut(t *testing.T) {
	for line, want := range map[string][2]string{
		"": {"", ""}, "   ": {"", ""}, "a": {"a", ""}, "  a  ": {"a", ""}, "a b": {"a", "b"}, "  a   b  c   ": {"a", "b  c"}, "a\tb c": {"a\tb", "c"}, "a \tb ": {"a", "\tb"}, "\xff \x00": {"\xff", "\x00"},
	} {
		if word, rest := lines.Cut(line); word != want[0] || rest != want[1] {
			t.Errorf("Cut of %q is %q, %q; want %q", line, word, rest, want)
		}
	}
}

// TestCutIsWords: a line's words are what is cut off it, one by one.
func TestCutIsWords(t *testing.T) {
	dice := rand.New(rand.NewSource(1))
	for range 5000 {
		b := make([]byte, dice.Intn(12))
		for i := range b {
			b[i] = "  ab;\t\xc3\x00"[dice.Intn(8)]
		}
		line := string(b)
		var got []string
		for word, rest := lines.Cut(line); word != ""; word, rest = lines.Cut(rest) {
			got = append(got, word)
		}
		words := lines.Words(line)
		if !slices.Equal(got, words) {
			t.Fatalf("%q: cut off are %q, Words are %q", line, got, words)
		}
		if silent := len(words) == 0 || strings.HasPrefix(words[0], ";"); lines.Silent(line) != silent {
			t.Fatalf("Silent of %q is %v", line, !silent)
		}
	}
}

var aNumber = regexp.MustCompile(`^(0|[1-9][0-9]{0,8})$`)

func TestNumber(t *testing.T) {
	for word, want := range map[string]int{"0": 0, "1": 1, "9": 9, "10": 10, "123456789": 123456789, "999999999": 999999999} {
		if n, ok := lines.Number(word); n != want || !ok {
			t.Errorf("Number of %q is %d, %v", word, n, ok)
		}
	}
	words := []string{"", "-", "-0", "-1", "+0", "+1", "00", "01", "1000000000", "9999999999", "99999999999999999999", "1 ", " 1", "1_0", "0x1", "1e1", "1.0", "a", "١", "1\x00"}
	dice := rand.New(rand.NewSource(2))
	for range 5000 {
		b := make([]byte, dice.Intn(12))
		for i := range b {
			b[i] = "0011223456789+-_ "[dice.Intn(17)]
		}
		words = append(words, string(b))
	}
	for _, word := range words {
		n, ok := lines.Number(word)
		if ok != aNumber.MatchString(word) || ok && fmt.Sprint(n) != word || !ok && n != 0 {
			t.Errorf("Number of %q is %d, %v", word, n, ok)
		}
	}
}

func TestHex(t *testing.T) {
	dice := rand.New(rand.NewSource(3))
	every := make([]byte, 256)
	for i := range every {
		every[i] = byte(i)
	}
	texts := []string{"", "a", "\x00", "\xff", string(every)}
	for range 100 {
		b := make([]byte, dice.Intn(50))
		dice.Read(b)
		texts = append(texts, string(b))
	}
	for _, s := range texts {
		digits := fmt.Sprintf("%x", s)
		if got := lines.Hex(s); got != digits {
			t.Errorf("Hex of %q is %s", s, got)
		}
		if got, ok := lines.Unhex(digits); got != s || ok != (s != "") {
			t.Errorf("Unhex of %s is %q, %v", digits, got, ok)
		}
	}
	for _, word := range []string{"", "0", "000", "0A", "A0", "0g", "g0", "/0", ":0", "`0", "0x", " 00", "00 ", "0 ", "é", "00\n"} {
		if got, ok := lines.Unhex(word); got != "" || ok {
			t.Errorf("Unhex of %q is %q, %v", word, got, ok)
		}
	}
}

func text(s string) api.Value { return api.Value{Kind: api.Bytes, S: s} }

func list(l ...api.Value) api.Value { return api.Value{Kind: api.Array, L: l} }

// valueOf is a random one of at most that depth.
func valueOf(dice *rand.Rand, depth int) api.Value {
	kinds := 6
	if depth == 1 {
		kinds = 4
	}
	v := api.Value{Kind: dice.Intn(kinds)}
	switch v.Kind {
	case api.Bool:
		v.N = dice.Int63n(2)
	case api.Int:
		v.N = []int64{0, 1, -1, 10, math.MaxInt64, math.MinInt64, dice.Int63() - dice.Int63()}[dice.Intn(7)]
	case api.Bytes:
		b := make([]byte, dice.Intn(6))
		dice.Read(b)
		v.S = string(b) + []string{"", `"`, `\`, " ", `\x`, ": "}[dice.Intn(6)]
	case api.Array:
		for range dice.Intn(4) {
			v.L = append(v.L, valueOf(dice, depth-1))
		}
	case api.Record:
		for _, key := range []string{"", "\x00", `"`, `\`, "a", "a b", "\xff"} {
			if dice.Intn(3) == 0 {
				v.K = append(v.K, key)
				v.L = append(v.L, valueOf(dice, depth-1))
			}
		}
	}
	return v
}

func same(a, b api.Value) bool {
	return value.Print(a) == value.Print(b) && value.Compare(a, b) == 0 && value.Right(a) && value.Right(b)
}

func TestValue(t *testing.T) {
	dice := rand.New(rand.NewSource(4))
	long := text(strings.Repeat("\xff", 2047))
	deep := list()
	for range 7 {
		deep = list(deep)
	}
	values := []api.Value{{}, {Kind: api.Bool}, {Kind: api.Bool, N: 1}, long, deep, list(make([]api.Value, 2047)...)}
	for range 3000 {
		values = append(values, valueOf(dice, 1+dice.Intn(4)))
	}
	for _, v := range values {
		s := value.Print(v)
		got, ok := lines.Value(s)
		if !ok || !same(got, v) {
			t.Fatalf("Value of %.200s is %.200s, %v", s, value.Print(got), ok)
		}
		// A byte more, less or otherwise: another value's text, or none's.
		for range 5 {
			at := dice.Intn(len(s))
			insert := string(` "\x0[]{},:-aunit`[dice.Intn(17)])
			for _, spoilt := range []string{s[:at] + s[at+1:], s[:at] + insert + s[at:], s[:at] + insert + s[at+1:], s[:at], s + insert, insert + s} {
				if got, ok := lines.Value(spoilt); ok && value.Print(got) != spoilt || !ok && !reflect.DeepEqual(got, api.Value{}) {
					t.Fatalf("Value of %.200q is %.200s, %v", spoilt, value.Print(got), ok)
				}
			}
		}
	}
}

func TestNoValue(t *testing.T) {
	for _, s := range []string{
		"", " ", "unit ", " unit", "Unit", "null", "nil", "units", "true1", "tru", "-", "-0", "+1", "01", "00", "1 2", "0x1", "1.0", "9223372036854775808", "-9223372036854775809", "99999999999999999999",
		`"`, `"a`, `a"`, `"a""`, `"\"`, `"\n"`, `"\x0"`, `"\x0A"`, `"\x41"`, `"\a"`, "\"\n\"", "\"\x00\"", "\"\xff\"", `'a'`, `"\x"`, `"é"`,
		"[", "]", "[]]", "[ ]", "[1,2]", "[1 , 2]", "[1,  2]", "[1, ]", "[, 1]", "[1 2]", "[1, 2", "[[]", "[],",
		"{", "}", "{}}", "{ }", "{a: 1}", `{"a":1}`, `{"a" : 1}`, `{"a":  1}`, `{"a"}`, `{"a": }`, `{"a": 1, }`, `{"b": 1, "a": 2}`, `{"a": 1, "a": 2}`, `{"a": 1,"b": 2}`, `{"` + strings.Repeat("k", 33) + `": 1}`,
		strings.Repeat("[", 9) + strings.Repeat("]", 9), strings.Repeat("[", 100000), strings.Repeat("[", 8) + "1" + strings.Repeat("]", 8), strings.Repeat(`{"": `, 100000),
		`"` + strings.Repeat("h", 2048) + `"`, "[" + strings.Repeat("unit, ", 2047) + "unit]", strings.Repeat("9", 100000),
	} {
		if v, ok := lines.Value(s); ok || !reflect.DeepEqual(v, api.Value{}) {
			t.Errorf("Value of %.60q is %.60s, %v", s, value.Print(v), ok)
		}
	}
}
