package lex_test

import (
	"fmt"
	"math"
	"math/big"
	"math/rand"
	"regexp"
	"slices"
	"strconv"
	"strings"
	"testing"
	"unsafe"

	"scruple/api"
	"scruple/lex"
	"scruple/value"
)

var keywords = strings.Fields("fn export let if else while return break continue true false unit")

var signs = strings.Fields("( ) { } [ ] , ; : . = == != < <= > >= + - * / % ! && ||")

func name(s string, at int) api.Token { return api.Token{Kind: api.TokName, Text: s, At: at} }

func key(s string, at int) api.Token { return api.Token{Kind: api.TokKey, Text: s, At: at} }

func whole(n int64, at int) api.Token { return api.Token{Kind: api.TokInt, N: n, At: at} }

func said(s string, at int) api.Token { return api.Token{Kind: api.TokBytes, Text: s, At: at} }

func sign(s string, at int) api.Token { return api.Token{Kind: api.TokSign, Text: s, At: at} }

func end(at int) api.Token { return api.Token{Kind: api.TokEnd, At: at} }

// short is a list of tokens, cut off where it gets long.
func short(l []api.Token) string { return fmt.Sprintf("%.300q", fmt.Sprint(l)) }

// read: is this what All tells of a source?
func read(t *testing.T, s string, want ...api.Token) {
	t.Helper()
	if l, at, e := lex.All(s); !slices.Equal(l, want) || at != 0 || e != api.OK {
		t.Errorf("All(%.80q) is %s, %d, %v, not %s", s, short(l), at, e, short(want))
	}
}

// faulty: is this the fault that All tells of a source?
func faulty(t *testing.T, s string, place int, want api.Errno) {
	t.Helper()
	if l, at, e := lex.All(s); len(l) != 0 || at != place || e != want {
		t.Errorf("All(%.80q) is %s, %d, %v, not %d, %v", s, short(l), at, e, place, want)
	}
}

// The shapes of a second reading of P16.1, each at the beginning of what is left.
var (
	shapeBlanks = regexp.MustCompile(`^(?:[ \t\n\r]|//[^\n]*)*`)
	shapeWord   = regexp.MustCompile(`^[A-Za-z_][A-Za-z0-9_]*`)
	shapeNumber = regexp.MustCompile(`^[0-9][A-Za-z0-9_]*`)
	shapeInt    = regexp.MustCompile(`^(?:0|[1-9][0-9]*)$`)
	shapeBytes  = regexp.MustCompile(`^"(?:[ !#-\[\]-~]|\\["\\]|\\x[0-9a-f]{2})*"`)
	shapePiece  = regexp.MustCompile(`\\x[0-9a-f]{2}|\\.|[^\\]`)
	shapeSign   = regexp.MustCompile(`^(?:==|!=|<=|>=|&&|\|\||[(){}\[\],;:.=<>+\-*/%!])`)
)

// model is a second reading of P16.1.
func model(s string) ([]api.Token, int, api.Errno) {
	if len(s) > 8192 {
		return nil, 0, api.ErrLexLong
	}
	var out []api.Token
	for at := 0; ; {
		at += len(shapeBlanks.FindString(s[at:]))
		if at == len(s) {
			return append(out, end(at)), 0, api.OK
		}
		token, size, e := modelToken(s[at:])
		if e != api.OK {
			return nil, at, e
		}
		token.At = at
		out = append(out, token)
		at += size
	}
}

func modelToken(s string) (api.Token, int, api.Errno) {
	if w := shapeWord.FindString(s); w != "" {
		if slices.Contains(keywords, w) {
			return key(w, 0), len(w), api.OK
		}
		if len(w) > 20 {
			return api.Token{}, 0, api.ErrLexName
		}
		return name(w, 0), len(w), api.OK
	}
	if w := shapeNumber.FindString(s); w != "" {
		n, ok := new(big.Int).SetString(w, 10)
		if !shapeInt.MatchString(w) || !ok || !n.IsInt64() {
			return api.Token{}, 0, api.ErrLexInt
		}
		return whole(n.Int64(), 0), len(w), api.OK
	}
	if s[0] == '"' {
		w := shapeBytes.FindString(s)
		if w == "" {
			return api.Token{}, 0, api.ErrLexBytes
		}
		pieces := shapePiece.FindAllString(w[1:len(w)-1], -1)
		if len(pieces) > 2047 {
			return api.Token{}, 0, api.ErrLexBytes
		}
		var b []byte
		for _, p := range pieces {
			b = append(b, modelPiece(p))
		}
		return said(string(b), 0), len(w), api.OK
	}
	if w := shapeSign.FindString(s); w != "" {
		return sign(w, 0), len(w), api.OK
	}
	return api.Token{}, 0, api.ErrLexByte
}

func modelPiece(p string) byte {
	if len(p) < 4 {
		return p[len(p)-1]
	}
	n, err := strconv.ParseUint(p[2:], 16, 8)
	if err != nil {
		panic(err)
	}
	return byte(n)
}

// asModel: does All tell of a source what the second reading tells?
func asModel(t *testing.T, s string) {
	t.Helper()
	l, at, e := lex.All(s)
	wantList, wantAt, wantE := model(s)
	if !slices.Equal(l, wantList) || at != wantAt || e != wantE {
		t.Fatalf("All(%.200q) is %s, %d, %v, not %s, %d, %v", s, short(l), at, e, short(wantList), wantAt, wantE)
	}
}

// every are all bytes there are.
func every() string {
	b := make([]byte, 256)
	for i := range b {
		b[i] = byte(i)
	}
	return string(b)
}

func letters(count int) string { return strings.Repeat("a", count) }

func TestExamples(t *testing.T) {
	read(t, "let a = 12; // x", key("let", 0), name("a", 4), sign("=", 6), whole(12, 8), sign(";", 10), end(16))
	read(t, "a<==b", name("a", 0), sign("<=", 1), sign("=", 3), name("b", 4), end(5))
	read(t, `x"\x0a\""`, name("x", 0), said("\n\"", 1), end(9))
	read(t, "", end(0))
	read(t, "//", end(2))
	read(t, "/ /", sign("/", 0), sign("/", 2), end(3))
	for _, s := range []string{"012", "1x", "9223372036854775808"} {
		faulty(t, s, 0, api.ErrLexInt)
	}
	faulty(t, "a &b", 2, api.ErrLexByte)
	for _, s := range []string{`"a`, `"\n"`, `"\xAA"`} {
		faulty(t, s, 0, api.ErrLexBytes)
	}
	faulty(t, "é", 0, api.ErrLexByte)
	faulty(t, letters(21), 0, api.ErrLexName)
	faulty(t, strings.Repeat(" ", 8193), 0, api.ErrLexLong)
	faulty(t, `"`+letters(2048)+`"`, 0, api.ErrLexBytes)
	for s, want := range map[string]bool{"_": true, "fn": false, "Fn": true, "": false, "a b": false, "1a": false} {
		if lex.IsName(s) != want {
			t.Errorf("IsName(%q) is %v", s, !want)
		}
	}
	if got := lex.Quote("a\"\n"); got != `"a\"\x0a"` {
		t.Errorf("Quote is %s", got)
	}
}

// The sources of the document's examples of the whole.
func TestExamplesOfTheWhole(t *testing.T) {
	read(t, "export fn f(a) { return a + 1; }",
		key("export", 0), key("fn", 7), name("f", 10), sign("(", 11), name("a", 12), sign(")", 13), sign("{", 15),
		key("return", 17), name("a", 24), sign("+", 26), whole(1, 28), sign(";", 29), sign("}", 31), end(32))
	read(t, `save("k", 1);`, name("save", 0), sign("(", 4), said("k", 5), sign(",", 8), whole(1, 10), sign(")", 11), sign(";", 12), end(13))
	read(t, "fn f(){return(1+2)*3;}",
		key("fn", 0), name("f", 3), sign("(", 4), sign(")", 5), sign("{", 6), key("return", 7), sign("(", 13), whole(1, 14), sign("+", 15),
		whole(2, 16), sign(")", 17), sign("*", 18), whole(3, 19), sign(";", 20), sign("}", 21), end(22))
}

// How long a source may be is asked ahead of all else.
func TestP161Long(t *testing.T) {
	for _, s := range []string{" ", "\n", "/", "//", "_ ", "#", `"`, "0", "a", "\xff"} {
		for size := 8190; size <= 8194; size++ {
			source := strings.Repeat(s, size)[:size]
			if size > 8192 {
				faulty(t, source, 0, api.ErrLexLong)
			}
			asModel(t, source)
		}
		faulty(t, strings.Repeat(s, 1<<20), 0, api.ErrLexLong)
	}
	read(t, strings.Repeat(" ", 8192), end(8192))
	read(t, "//"+strings.Repeat("#", 8190), end(8192))
	read(t, strings.Repeat("\n", 8191)+"a", name("a", 8191), end(8192))
	faulty(t, strings.Repeat(" ", 8191)+"#", 8191, api.ErrLexByte)
	faulty(t, "#"+strings.Repeat(" ", 8192), 0, api.ErrLexLong)
	// As many tokens as a source may have.
	l, at, e := lex.All(strings.Repeat(";", 8192))
	if len(l) != 8193 || at != 0 || e != api.OK {
		t.Fatalf("8192 signs: %d, %d, %v", len(l), at, e)
	}
	for i, token := range l[:8192] {
		if token != sign(";", i) {
			t.Fatalf("sign %d is %v", i, token)
		}
	}
}

// Each byte, and each two, as a whole source.
func TestP161EveryShortSource(t *testing.T) {
	for c := range 256 {
		one := string([]byte{byte(c)})
		asModel(t, one)
		for d := range 256 {
			asModel(t, one+string([]byte{byte(d)}))
		}
	}
}

// Each row of up to five of these, which are enough to make each kind of token, blank and fault.
func TestP161EveryRowOfSome(t *testing.T) {
	some := []string{"a", "_", "0", "7", `"`, `\`, "x", "/", "=", "&", "\n", "#"}
	var row func(s string, more int)
	row = func(s string, more int) {
		asModel(t, s)
		if more == 0 {
			return
		}
		for _, x := range some {
			row(s+x, more-1)
		}
	}
	row("", 5)
}

func TestP161Blanks(t *testing.T) {
	for c := range 256 {
		source := "a" + string([]byte{byte(c)}) + "b"
		if strings.IndexByte(" \t\n\r", byte(c)) >= 0 {
			read(t, source, name("a", 0), name("b", 2), end(3))
		} else if l, _, _ := lex.All(source); len(l) == 3 && l[1].Kind == api.TokName {
			t.Errorf("the byte %x is passed over", c)
		}
		asModel(t, source)
	}
	read(t, " \t\n\r a\r\n\t ", name("a", 5), end(10))
	for _, s := range []string{"\v", "\f", "\x00", "\u0085", "\u00a0", "\u2028", "\u3000", "\ufeff"} {
		faulty(t, s+"a", 0, api.ErrLexByte)
		faulty(t, "a"+s, 1, api.ErrLexByte)
	}
}

func TestP161Remarks(t *testing.T) {
	for s, want := range map[string][]api.Token{
		"//":                           {end(2)},
		"///":                          {end(3)},
		"//\n":                         {end(3)},
		"// a\nb":                      {name("b", 5), end(6)},
		"// a\rb":                      {end(6)},
		"// a\rb\n\nc":                 {name("c", 8), end(9)},
		"// a // b\nc":                 {name("c", 10), end(11)},
		"//a\n//b\n//c":                {end(11)},
		"//a\n\t //b\nc//d":            {name("c", 10), end(14)},
		"/ //\n/":                      {sign("/", 0), sign("/", 5), end(6)},
		"a//":                          {name("a", 0), end(3)},
		"1//2\n3":                      {whole(1, 0), whole(3, 5), end(6)},
		"fn//\nfn":                     {key("fn", 0), key("fn", 5), end(7)},
		"=//=\n=":                      {sign("=", 0), sign("=", 5), end(6)},
		"*//*\n*":                      {sign("*", 0), sign("*", 5), end(6)},
		`"//"//"`:                      {said("//", 0), end(7)},
		`"a//"` + "\n":                 {said("a//", 0), end(6)},
		"// \" # é \xff \xe2\x82\nx":   {name("x", 15), end(16)},
		"//\xe2\nx":                    {name("x", 4), end(5)},
		"//\xf0\x9f\x98\nx":            {name("x", 6), end(7)},
		"//\xc3\n\"\\x00\"":            {said("\x00", 4), end(10)},
		"// " + every()[11:] + "\n0":   {whole(0, 249), end(250)},
		"// " + every()[:11] + "0//\n": {whole(0, 14), end(18)},
		"//012 " + letters(21) + "\n":  {end(28)},
	} {
		read(t, s, want...)
		asModel(t, s)
	}
	for s, at := range map[string]int{"/*a*/#": 5, "//\n#": 3, "//#\n\n#": 5, "#//": 0, "//\u2028#\n\\": 7, "//\x85\n\x85": 4} {
		faulty(t, s, at, api.ErrLexByte)
	}
	faulty(t, `"//`, 0, api.ErrLexBytes)
	faulty(t, `// "`+"\n"+`"//`+"\n"+`"`, 5, api.ErrLexBytes)
}

func TestP161Names(t *testing.T) {
	for _, w := range []string{"a", "z", "A", "Z", "_", "__", "_1", "a1", "Fn", "FN", "len", "load", "x_y", "nil", "func", letters(19), letters(20), strings.Repeat("_", 20), "_2345678901234567890"} {
		read(t, w, name(w, 0), end(len(w)))
		read(t, " "+w+"\n", name(w, 1), end(len(w)+2))
		read(t, w+"."+w, name(w, 0), sign(".", len(w)), name(w, len(w)+1), end(2*len(w)+1))
		read(t, w+`""`+w, name(w, 0), said("", len(w)), name(w, len(w)+2), end(2*len(w)+2))
		faulty(t, w+"é", len(w), api.ErrLexByte)
		faulty(t, w+"\xff", len(w), api.ErrLexByte)
	}
	for _, w := range []string{letters(21), letters(22), letters(40), letters(8192), strings.Repeat("_", 21), "_23456789012345678901", "continue" + letters(13), letters(20) + "0", letters(20) + "_"} {
		faulty(t, w, 0, api.ErrLexName)
		if len(w) < 8000 {
			faulty(t, "a "+w+" #", 2, api.ErrLexName)
			faulty(t, `"`+"\"\n"+w+`"`, 3, api.ErrLexName)
		}
	}
	// Letters are those of two alphabets, no others; what folds to one is none.
	for _, s := range []string{"é", "ß", "ſ", "\u212a", "д", "\u0661", "ａ", "\xff", "\x80", "\ufffd", "@", "`", "[", "^", "$", "'"} {
		if l, _, _ := lex.All("a" + s); len(l) > 0 && l[0] != name("a", 0) {
			t.Errorf("%q belongs to a word", s)
		}
		asModel(t, "a"+s)
		asModel(t, s+"a")
	}
}

func TestP161Keywords(t *testing.T) {
	for _, w := range keywords {
		read(t, w, key(w, 0), end(len(w)))
		read(t, w+"("+w+")", key(w, 0), sign("(", len(w)), key(w, len(w)+1), sign(")", 2*len(w)+1), end(2*len(w)+2))
		for _, other := range []string{w + "0", w + "_", "_" + w, w + w, strings.ToUpper(w), w[:1], w[1:], w[:len(w)-1], strings.ToUpper(w[:1]) + w[1:]} {
			if !slices.Contains(keywords, other) {
				read(t, other, name(other, 0), end(len(other)))
			}
		}
	}
	for _, w := range strings.Fields("for func var const len push change slice with without keys has kind digest abort load save drop after null and or not in import array record int bool") {
		read(t, w, name(w, 0), end(len(w)))
	}
}

func TestP161Ints(t *testing.T) {
	for _, n := range []int64{0, 1, 7, 9, 10, 12, 100, 1000000, math.MaxInt32, math.MaxInt32 + 1, math.MaxUint32 + 1, 1000000000000000000, math.MaxInt64 - 1, math.MaxInt64} {
		w := fmt.Sprint(n)
		read(t, w, whole(n, 0), end(len(w)))
		read(t, "-"+w+";", sign("-", 0), whole(n, 1), sign(";", len(w)+1), end(len(w)+2))
		read(t, w+"."+w, whole(n, 0), sign(".", len(w)), whole(n, len(w)+1), end(2*len(w)+1))
		read(t, w+`"a"`, whole(n, 0), said("a", len(w)), end(len(w)+3))
		for _, wrong := range []string{"0" + w, "00" + w, w + "a", w + "_", w + "Z", w + "x1", w + "_0", w + "e1", strings.Repeat("0", 20) + w} {
			faulty(t, wrong, 0, api.ErrLexInt)
			faulty(t, "a="+wrong+"#", 2, api.ErrLexInt)
		}
	}
	for _, w := range []string{"9223372036854775808", "9223372036854775809", "9999999999999999999", "10000000000000000000", "18446744073709551615", "18446744073709551616", "18446744073709551617", strings.Repeat("9", 100), "1" + strings.Repeat("0", 8191), "00", "01", "0x1", "0b1", "0o7", "0_", "1_000", "1e5", "1a", "5_", "0fn", "1" + letters(30)} {
		faulty(t, w, 0, api.ErrLexInt)
	}
	read(t, "0 0", whole(0, 0), whole(0, 2), end(3))
	read(t, "1+2", whole(1, 0), sign("+", 1), whole(2, 2), end(3))
	faulty(t, "1é", 1, api.ErrLexByte)
	faulty(t, "1\u0661", 1, api.ErrLexByte)
	faulty(t, "\uff11", 0, api.ErrLexByte)
}

// Each byte between quotes, alone and behind a backslash.
func TestP161EachPiece(t *testing.T) {
	for c := range 256 {
		b := string([]byte{byte(c)})
		switch {
		case c == '"':
			read(t, `""`, said("", 0), end(2))
			faulty(t, `"""`, 2, api.ErrLexBytes)
		case c >= 0x20 && c <= 0x7e && c != '\\':
			read(t, `"`+b+`"`, said(b, 0), end(3))
			read(t, ` "x`+b+b+`y" `, said("x"+b+b+"y", 1), end(8))
		default:
			faulty(t, `"`+b+`"`, 0, api.ErrLexBytes)
			faulty(t, `a"x`+b+`y"`, 1, api.ErrLexBytes)
		}
		if c == '"' || c == '\\' {
			read(t, `"\`+b+`"`, said(b, 0), end(4))
			read(t, `"x\`+b+`y"z`, said("x"+b+"y", 0), name("z", 6), end(7))
		} else {
			faulty(t, `"\`+b+`"`, 0, api.ErrLexBytes)
			faulty(t, `;"a\`+b+`4"`, 1, api.ErrLexBytes)
		}
	}
}

// A byte by its digits: small ones alone, and just two of them.
func TestP161EachByteByItsDigits(t *testing.T) {
	for c := range 256 {
		b := string([]byte{byte(c)})
		read(t, fmt.Sprintf(`"\x%02x"`, c), said(b, 0), end(6))
		read(t, fmt.Sprintf(`"\x%02x0\x%02x"x`, c, c), said(b+"0"+b, 0), name("x", 11), end(12))
		if big := fmt.Sprintf(`"\x%02X"`, c); big != fmt.Sprintf(`"\x%02x"`, c) {
			faulty(t, big, 0, api.ErrLexBytes)
		}
		digit := strings.Contains("0123456789abcdef", b)
		for _, shape := range []string{`"\x%s0"`, `"\x0%s"`, `"\x%s"`, `"\x%s`, `"\x%sf`} {
			source := fmt.Sprintf(shape, b)
			if !digit {
				faulty(t, source, 0, api.ErrLexBytes)
			}
			asModel(t, source)
		}
	}
	for _, s := range []string{`"\X41"`, `"\x"`, `"\x4"`, `"\x 41"`, `"\x4 1"`, `"\u0041"`, `"\101"`, `"\0"`, `"\n"`, `"\t"`, `"\'"`, `"\x+1"`, `"\x-1"`, `"\x_1"`, `"\x1_"`} {
		faulty(t, s, 0, api.ErrLexBytes)
	}
}

// What is not closed, wherever it is cut off.
func TestP161BytesCutOff(t *testing.T) {
	for _, s := range []string{`"`, `"a`, `"\`, `"\"`, `"\\`, `"\\\"`, `"\x`, `"\x4`, `"\x41`, `"a b`, "\"a\n", "\"\n\"", "\"//\n\"", "\"\t\"", "\"\r\n", "\"é\"", "\"\xff\"", "\"\x7f\"", "\"\x1f\"", "\"\x00\""} {
		faulty(t, s, 0, api.ErrLexBytes)
		faulty(t, "let "+s, 4, api.ErrLexBytes)
	}
	// The first fault is told, though a worse one stands behind.
	faulty(t, `"`+"\n#", 0, api.ErrLexBytes)
	faulty(t, `#"`, 0, api.ErrLexByte)
	faulty(t, `""" #`, 2, api.ErrLexBytes)
}

// How many pieces there may be, however each of them is written.
func TestP161MostPieces(t *testing.T) {
	for written, b := range map[string]string{"a": "a", " ": " ", "~": "~", `\"`: `"`, `\\`: `\`, `\x00`: "\x00", `\xff`: "\xff", `\x61`: "a"} {
		for _, count := range []int{2045, 2046, 2047} {
			s := `"` + strings.Repeat(written, count) + `"`
			read(t, s, said(strings.Repeat(b, count), 0), end(len(s)))
		}
		s := `"` + strings.Repeat(written, 2048) + `"`
		if len(s) > 8192 {
			faulty(t, s, 0, api.ErrLexLong)
			continue
		}
		faulty(t, s, 0, api.ErrLexBytes)
		faulty(t, s[:len(s)-1], 0, api.ErrLexBytes)
	}
	mixed := strings.Repeat(`a\"\x00`, 682) // which has 2046 pieces
	read(t, `"`+mixed+`z"`, said(strings.Repeat("a\"\x00", 682)+"z", 0), end(len(mixed)+3))
	faulty(t, `"`+mixed+`zz"`, 0, api.ErrLexBytes)
	faulty(t, `"`+mixed+`z\""`, 0, api.ErrLexBytes)
	// Two of them are counted each for itself.
	most := `"` + letters(2047) + `"`
	read(t, most+most+";"+most, said(letters(2047), 0), said(letters(2047), 2049), sign(";", 4098), said(letters(2047), 4099), end(6148))
	faulty(t, most+" "+most[:2048]+`a"`, 2050, api.ErrLexBytes)
}

func TestP161Signs(t *testing.T) {
	for _, w := range signs {
		read(t, w, sign(w, 0), end(len(w)))
		read(t, "a"+w+"b", name("a", 0), sign(w, 1), name("b", len(w)+1), end(len(w)+2))
		read(t, "1"+w+`"b"`, whole(1, 0), sign(w, 1), said("b", len(w)+1), end(len(w)+4))
		read(t, w+" "+w, sign(w, 0), sign(w, len(w)+1), end(2*len(w)+1))
	}
	// The longest one that stands there.
	for s, want := range map[string]string{
		"===": "== =", "====": "== ==", "!==": "!= =", "!===": "!= ==", "<==": "<= =", ">==": ">= =", "=<": "= <", "=>": "= >", "=!": "= !", "<>": "< >", "<<": "< <", ">>": "> >", "<<=": "< <=",
		">>=": "> >=", "!!": "! !", "!!=": "! !=", "&&&&": "&& &&", "||||": "|| ||", "&&||": "&& ||", "=&&": "= &&", "+=": "+ =", "-=": "- =", "*=": "* =", "/=": "/ =", "%=": "% =", "++": "+ +", "--": "- -",
		"->": "- >", "<-": "< -", ":=": ": =", "::": ": :", "..": ". .", "...": ". . .", "**": "* *", "*/": "* /", "/*": "/ *", "=/": "= /", "()": "( )", "[]": "[ ]", "{}": "{ }", ";;": "; ;", ",,": ", ,", "!=!": "!= !", "<=>": "<= >",
	} {
		var list []api.Token
		at := 0
		for _, w := range strings.Fields(want) {
			list = append(list, sign(w, at))
			at += len(w)
		}
		read(t, s, append(list, end(at))...)
	}
	for s, at := range map[string]int{"&": 0, "|": 0, "& &": 0, "| |": 0, "&|": 0, "|&": 0, "&=": 0, "&&&": 2, "|||": 2, "a &b": 2, "a |": 2, "&&|": 2, "a&": 1, "=&": 1, "&a&": 0} {
		faulty(t, s, at, api.ErrLexByte)
	}
	for _, s := range []string{"#", "$", "'", "?", "@", "\\", "^", "`", "~", "\x00", "\x7f", "\x80", "\xff", "é", "\u2264", "\xc3", "\xc3\x28", "\ufffd"} {
		faulty(t, s, 0, api.ErrLexByte)
		faulty(t, "a"+s, 1, api.ErrLexByte)
		faulty(t, "a = "+s+" b", 4, api.ErrLexByte)
		faulty(t, "<"+s+"=", 1, api.ErrLexByte)
	}
}

// The first fault from the left is told, with where that token would begin, and no tokens beside it.
func TestP161TheFirstFault(t *testing.T) {
	faults := map[string]api.Errno{"#": api.ErrLexByte, "&": api.ErrLexByte, "012": api.ErrLexInt, "1x": api.ErrLexInt, `"\q"`: api.ErrLexBytes, `"`: api.ErrLexBytes, letters(21): api.ErrLexName}
	for _, ahead := range []string{"", " ", "a ", "fn f() {\n\t", "// # 012\n", `"#" `, "= ", `"\"" `, "\n\n\r\n"} {
		for s, e := range faults {
			faulty(t, ahead+s, len(ahead), e)
			for other := range faults {
				faulty(t, ahead+s+"\n"+other, len(ahead), e)
				asModel(t, ahead+s+other)
			}
		}
	}
}

// scraps are what random sources are made of.
var scraps = slices.Concat(keywords, signs, signs, strings.Split("a|b2|_|Fn|x_y|"+letters(19)+"|"+letters(20)+`|0|1|7|12|9223372036854775807|""|"a"|"a b"|"\x00\xff"|"\""|"\\"|"//"|"\x41" `, "|"),
	[]string{" ", " ", " ", "\n", "\n", "\t", "\r", "// a\n", "//\n", "// \" é\n"})

var wrongScraps = []string{"#", "&", "|", "012", "00", "1x", "9223372036854775808", letters(21), `"`, `\`, `"\n"`, `"\xAA"`, "\"\n", "é", "\xff", "\x00", "?"}

// randomSource is one of up to so many scraps, and now and then a wrong one.
func randomSource(r *rand.Rand, most int) string {
	var out strings.Builder
	for range r.Intn(most + 1) {
		if r.Intn(100) == 0 {
			out.WriteString(wrongScraps[r.Intn(len(wrongScraps))])
		} else {
			out.WriteString(scraps[r.Intn(len(scraps))])
		}
		if r.Intn(2) == 0 {
			out.WriteByte(' ')
		}
	}
	return out.String()
}

func TestP161Random(t *testing.T) {
	r := rand.New(rand.NewSource(161))
	kinds, errors := map[int]int{}, map[api.Errno]int{}
	for range 20000 {
		s := randomSource(r, 60)
		asModel(t, s)
		l, _, e := lex.All(s)
		errors[e]++
		for _, token := range l {
			kinds[token.Kind]++
		}
	}
	for kind := api.TokEnd; kind <= api.TokSign; kind++ {
		if kinds[kind] < 100 {
			t.Errorf("only %d tokens of kind %d were met", kinds[kind], kind)
		}
	}
	for _, e := range []api.Errno{api.OK, api.ErrLexByte, api.ErrLexInt, api.ErrLexBytes, api.ErrLexName} {
		if errors[e] < 100 {
			t.Errorf("only %d sources came to %v", errors[e], e)
		}
	}
}

func TestP161RandomBytes(t *testing.T) {
	r := rand.New(rand.NewSource(1611))
	for range 20000 {
		b := make([]byte, r.Intn(30))
		for i := range b {
			b[i] = byte(r.Intn(256))
			if r.Intn(4) > 0 {
				b[i] = byte(0x20 + r.Intn(0x5f))
			}
		}
		asModel(t, string(b))
		asModel(t, `"`+string(b)+`"`)
	}
}

// A source with each of its bytes changed, or gone.
func TestP161EveryByteChanged(t *testing.T) {
	source := "export fn f_1(a) { // é\n\tlet b = [\"x\\x0a\\\"\", 120, {k: true}];\r\n\tif (a != b && !c || 0 <= a.k) { return -a[0] % 9223372036854775807; }\n}\n"
	if _, _, e := lex.All(source); e != api.OK {
		t.Fatalf("All: %v", e)
	}
	for at := range len(source) {
		asModel(t, source[:at]+source[at+1:])
		for c := range 256 {
			asModel(t, source[:at]+string([]byte{byte(c)})+source[at+1:])
		}
	}
}

func TestP162IsName(t *testing.T) {
	for _, s := range []string{"_", "a", "z", "A", "Z", "a1", "_1", "__", "Fn", "FN", "len", "load", "fn1", "fnn", "f", letters(19), letters(20), strings.Repeat("_", 20), "a234567890_234567890", "UNIT", "True"} {
		if !lex.IsName(s) {
			t.Errorf("IsName(%q) is false", s)
		}
	}
	wrong := []string{"", " ", "a ", " a", "a b", "a\n", "\na", "1", "1a", "0", "9_", "a-b", "a.b", "a\x00", "\x00", "\"a\"", "é", "aé", "éa", "\xff", "a\xff", "ſ", "a\u212a", "\uff41", "\u0661", "a\u0661", "a//", "//a", "(a)", "-a", "@", "`", "[", "{", "/", ":",
		letters(21), letters(22), letters(40), letters(8192), letters(8193), letters(1 << 20), "_23456789012345678901", letters(19) + "é", letters(18) + "é", letters(20) + " "}
	for _, s := range append(wrong, keywords...) {
		if lex.IsName(s) {
			t.Errorf("IsName(%.80q) is true", s)
		}
	}
}

// isName is P16.2 by All: a source that is one TokName, as a whole.
func isName(s string) bool {
	l, _, e := lex.All(s)
	return e == api.OK && len(l) == 2 && l[0] == name(s, 0)
}

func TestP162AsAllTells(t *testing.T) {
	shape := regexp.MustCompile(`^[A-Za-z_][A-Za-z0-9_]{0,19}$`)
	ask := func(s string) {
		want := shape.MatchString(s) && !slices.Contains(keywords, s)
		if got := lex.IsName(s); got != want || isName(s) != want {
			t.Fatalf("IsName(%q) is %v, by All it is %v", s, got, isName(s))
		}
	}
	for c := range 256 {
		one := string([]byte{byte(c)})
		ask(one)
		for d := range 256 {
			ask(one + string([]byte{byte(d)}))
			ask("a" + one + string([]byte{byte(d)}))
		}
	}
	for _, w := range keywords {
		for at := range len(w) + 1 {
			ask(w[:at])
			ask(w[at:])
			for c := range 256 {
				ask(w[:at] + string([]byte{byte(c)}) + w[at:])
				if at < len(w) {
					ask(w[:at] + string([]byte{byte(c)}) + w[at+1:])
				}
			}
		}
	}
	r := rand.New(rand.NewSource(162))
	for range 20000 {
		b := make([]byte, r.Intn(25))
		for i := range b {
			b[i] = "abzAZ_019"[r.Intn(9)]
		}
		if len(b) > 0 && r.Intn(4) == 0 {
			b[r.Intn(len(b))] = byte(r.Intn(256))
		}
		ask(string(b))
	}
}

func TestP163Quote(t *testing.T) {
	for s, want := range map[string]string{
		"": `""`, "a": `"a"`, "a b": `"a b"`, `"`: `"\""`, `\`: `"\\"`, `\"`: `"\\\""`, `\x41`: `"\\x41"`, "\n": `"\x0a"`, "\t": `"\x09"`, "\r": `"\x0d"`, "\x00": `"\x00"`, "\x1f ~\x7f": `"\x1f ~\x7f"`, "'": `"'"`, "//": `"//"`,
		"é": `"\xc3\xa9"`, "\x80": `"\x80"`, "\xff": `"\xff"`, "\xe2\x82a": `"\xe2\x82a"`, "\xf0\x9f\x98\x80": `"\xf0\x9f\x98\x80"`, "\ufffd": `"\xef\xbf\xbd"`, "a\xffb\\c\"": `"a\xffb\\c\""`, "\\~ \x7f\xff": `"\\~ \x7f\xff"`,
	} {
		if got := lex.Quote(s); got != want {
			t.Errorf("Quote(%q) is %s, not %s", s, got, want)
		}
	}
	// A text of any length, also one that no source can have.
	for _, count := range []int{2047, 2048, 8192, 8193, 1 << 20} {
		if got := lex.Quote(letters(count)); got != `"`+letters(count)+`"` {
			t.Errorf("Quote of %d letters has %d bytes", count, len(got))
		}
		if got := lex.Quote(strings.Repeat("\xab", count)); got != `"`+strings.Repeat(`\xab`, count)+`"` {
			t.Errorf("Quote of %d bytes has %d", count, len(got))
		}
	}
}

func TestP163EachByte(t *testing.T) {
	for c := range 256 {
		b := string([]byte{byte(c)})
		want := b
		switch {
		case c == '"' || c == '\\':
			want = `\` + b
		case c < 0x20 || c > 0x7e:
			want = fmt.Sprintf(`\x%02x`, c)
		}
		if got := lex.Quote(b); got != `"`+want+`"` {
			t.Errorf("Quote of the byte %x is %s", c, got)
		}
		for d := range 256 {
			two := lex.Quote(b + string([]byte{byte(d)}))
			if one := lex.Quote(string([]byte{byte(d)})); two != `"`+want+one[1:] {
				t.Errorf("Quote of the bytes %x %x is %s", c, d, two)
			}
		}
	}
}

// randomText is one of so many bytes, some of which are of each sort.
func randomText(r *rand.Rand, size int) string {
	b := make([]byte, size)
	for i := range b {
		b[i] = byte(r.Intn(256))
		if r.Intn(4) == 0 {
			b[i] = "\"\\x/\n é"[r.Intn(8)]
		}
	}
	return string(b)
}

// Of up to 2047 bytes, whichever they are, Quote is read as them.
func TestFollowsAllOfQuote(t *testing.T) {
	r := rand.New(rand.NewSource(163))
	texts := []string{"", every(), letters(2047), strings.Repeat("\x00", 2047), strings.Repeat(`"`, 2047), strings.Repeat(`\`, 2047), strings.Repeat("é", 1023), randomText(r, 2047)}
	for c := range 256 {
		for d := range 256 {
			texts = append(texts, string([]byte{byte(c), byte(d)}))
		}
	}
	for range 2000 {
		texts = append(texts, randomText(r, r.Intn(2048)))
	}
	for _, s := range texts {
		q := lex.Quote(s)
		read(t, q, said(s, 0), end(len(q)))
		if print := value.Print(api.Value{Kind: api.Bytes, S: s}); q != print {
			t.Errorf("Quote(%.80q) is %.80s, as a value's text it is %.80s", s, q, print)
		}
	}
	for _, s := range []string{letters(2048), every() + letters(2048-256), strings.Repeat(`\`, 2048)} {
		faulty(t, lex.Quote(s), 0, api.ErrLexBytes)
	}
}

// written is a token as a source says it.
func written(token api.Token) string {
	switch token.Kind {
	case api.TokInt:
		return fmt.Sprint(token.N)
	case api.TokBytes:
		return lex.Quote(token.Text)
	}
	return token.Text
}

// The tokens, with a blank between each two, are the same tokens, each at its new place. (A remark alone does not do:
// behind the sign / it would begin a byte too early.)
func TestFollowsWrittenAgain(t *testing.T) {
	r := rand.New(rand.NewSource(164))
	met := 0
	for range 5000 {
		l, _, e := lex.All(randomSource(r, 40))
		if e != api.OK {
			continue
		}
		met++
		for _, blank := range []string{" ", "\n", "\t", "\r", " //\n", "\r// \" #\n\t"} {
			var out strings.Builder
			var want []api.Token
			for i, token := range l {
				if i > 0 {
					out.WriteString(blank)
				}
				token.At = out.Len()
				want = append(want, token)
				out.WriteString(written(token))
			}
			if out.Len() <= 8192 {
				read(t, out.String(), want...)
			}
		}
	}
	if met < 1000 {
		t.Errorf("only %d sources were read", met)
	}
}

// Up to the place of a token, or of a fault, a source is read by itself: what stands ahead is told alike, whatever
// stands behind.
func TestFollowsReadByItself(t *testing.T) {
	r := rand.New(rand.NewSource(165))
	for range 2000 {
		s := randomSource(r, 30)
		l, at, e := lex.All(s)
		if e != api.OK {
			l, _, _ = lex.All(s[:at] + ";")
			if len(l) < 2 || l[len(l)-2] != sign(";", at) {
				t.Fatalf("%q is not read up to its fault at %d: %v", s, at, l)
			}
			read(t, s[:at], append(slices.Clone(l[:len(l)-2]), end(at))...)
			continue
		}
		for i, token := range l {
			read(t, s[:token.At], append(slices.Clone(l[:i]), end(token.At))...)
			if token.Kind == api.TokEnd { // which may stand behind a remark that goes on
				continue
			}
			read(t, s[:token.At]+"; a", append(slices.Clone(l[:i]), sign(";", token.At), name("a", token.At+2), end(token.At+3))...)
			faulty(t, s[:token.At]+"#"+s[token.At:], token.At, api.ErrLexByte)
		}
	}
}

// piece is where something lies in memory.
type piece struct{ from, to uintptr }

func textPiece(s string) []piece {
	if s == "" {
		return nil
	}
	from := uintptr(unsafe.Pointer(unsafe.StringData(s)))
	return []piece{{from, from + uintptr(len(s))}}
}

func tokenPieces(l []api.Token) []piece {
	from := uintptr(unsafe.Pointer(unsafe.SliceData(l)))
	out := []piece{{from, from + uintptr(cap(l))*unsafe.Sizeof(l[0])}}
	for _, token := range l {
		out = append(out, textPiece(token.Text)...)
	}
	return out
}

// apart: do no two of these share any?
func apart(l []piece) bool {
	sorted := slices.SortedFunc(slices.Values(l), func(a, b piece) int { return int(int64(a.from) - int64(b.from)) })
	for i := 1; i < len(sorted); i++ {
		if sorted[i].from < sorted[i-1].to {
			return false
		}
	}
	return true
}

func TestR3NewMemory(t *testing.T) {
	source := strings.Clone(`export fn fn f f(a) "a" "" "a" "\x00" 12 == == ; ; while // a`)
	a, _, e := lex.All(source)
	b, _, f := lex.All(source)
	if e != api.OK || f != api.OK || len(a) != 19 || !slices.Equal(a, b) {
		t.Fatalf("All: %v, %v, %v, %v", a, e, b, f)
	}
	if !apart(slices.Concat(textPiece(source), tokenPieces(a), tokenPieces(b))) {
		t.Errorf("what All tells shares memory")
	}
	// What was told may be written over.
	want := slices.Clone(b)
	for i := range a {
		a[i] = api.Token{Kind: 9, Text: "x", N: 7, At: -1}
	}
	a = append(a, api.Token{Kind: 8})
	if c, _, _ := lex.All(source); !slices.Equal(b, want) || !slices.Equal(c, want) {
		t.Errorf("what was told has changed with another answer: %v", a)
	}
	for _, s := range []string{"", "a", strings.Clone("some text"), every()} {
		if !apart(slices.Concat(textPiece(s), textPiece(lex.Quote(s)), textPiece(lex.Quote(s)))) {
			t.Errorf("Quote(%q) shares memory", s)
		}
	}
}

// Calls side by side, on whatever sources, tell what they tell alone.
func TestR4NothingIsKept(t *testing.T) {
	r := rand.New(rand.NewSource(166))
	var sources []string
	for range 200 {
		sources = append(sources, randomSource(r, 60))
	}
	done := make(chan string)
	for range 8 {
		go func() {
			wrong := ""
			for _, s := range sources {
				l, at, e := lex.All(s)
				wantList, wantAt, wantE := model(s)
				if !slices.Equal(l, wantList) || at != wantAt || e != wantE {
					wrong = s
				}
			}
			done <- wrong
		}()
	}
	for range 8 {
		if s := <-done; s != "" {
			t.Errorf("All(%q) tells something else", s)
		}
	}
}
