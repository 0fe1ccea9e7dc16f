package value_test

import (
	"cmp"
	"fmt"
	"math"
	"math/rand"
	"slices"
	"strings"
	"testing"
	"unsafe"

	"scruple/api"
	"scruple/value"
)

var unit = api.Value{}

func truth(n int64) api.Value { return api.Value{Kind: api.Bool, N: n} }

func number(n int64) api.Value { return api.Value{Kind: api.Int, N: n} }

func text(s string) api.Value { return api.Value{Kind: api.Bytes, S: s} }

func list(l ...api.Value) api.Value { return api.Value{Kind: api.Array, L: l} }

// record is one of keys, parted by spaces, and their values, laid down as they are told.
func record(keys string, l ...api.Value) api.Value {
	return api.Value{Kind: api.Record, K: strings.Fields(keys), L: l}
}

// under is a record of one key.
func under(key string, x api.Value) api.Value {
	return api.Value{Kind: api.Record, K: []string{key}, L: []api.Value{x}}
}

// arrays is x within so many arrays, records within so many records.
func arrays(count int, x api.Value) api.Value {
	for range count {
		x = list(x)
	}
	return x
}

func records(count int, x api.Value) api.Value {
	for range count {
		x = under("", x)
	}
	return x
}

// units is an array of so many units: its weight is one more.
func units(count int) api.Value { return list(make([]api.Value, count)...) }

// wide is a record of so many keys of six bytes, each with Unit: its weight is 1, and 8 for each key.
func wide(count int) api.Value {
	r := api.Value{Kind: api.Record, L: make([]api.Value, count)}
	for i := range count {
		r.K = append(r.K, fmt.Sprintf("%06d", i))
	}
	return r
}

// endless is an array that holds itself, so often.
func endless(count int) api.Value {
	v := units(count)
	for i := range v.L {
		v.L[i] = v
	}
	return v
}

// thick is an array of count arrays, each of count arrays .., all of one row sharing their memory.
func thick(count, depth int) api.Value {
	v := unit
	for range depth - 1 {
		l := make([]api.Value, count)
		for i := range l {
			l[i] = v
		}
		v = list(l...)
	}
	return v
}

var longKey, tooLongKey = strings.Repeat("k", 32), strings.Repeat("k", 33)

// rights are right values in rising order, with their weights, depths and texts.
var rights = []struct {
	v             api.Value
	weight, depth int
	text          string
}{
	{unit, 1, 1, "unit"},
	{truth(0), 1, 1, "false"},
	{truth(1), 1, 1, "true"},
	{number(math.MinInt64), 1, 1, "-9223372036854775808"},
	{number(-10), 1, 1, "-10"},
	{number(-1), 1, 1, "-1"},
	{number(0), 1, 1, "0"},
	{number(1), 1, 1, "1"},
	{number(2), 1, 1, "2"},
	{number(10), 1, 1, "10"},
	{number(math.MaxInt64), 1, 1, "9223372036854775807"},
	{text(""), 1, 1, `""`},
	{text("\x00"), 2, 1, `"\x00"`},
	{text("\n"), 2, 1, `"\x0a"`},
	{text("\x1f"), 2, 1, `"\x1f"`},
	{text(" "), 2, 1, `" "`},
	{text(`"`), 2, 1, `"\""`},
	{text("'"), 2, 1, `"'"`},
	{text("a"), 2, 1, `"a"`},
	{text("aa"), 3, 1, `"aa"`},
	{text("ab"), 3, 1, `"ab"`},
	{text("b"), 2, 1, `"b"`},
	{text(strings.Repeat("x", 2046)), 2047, 1, `"` + strings.Repeat("x", 2046) + `"`},
	{text(strings.Repeat("x", 2047)), 2048, 1, `"` + strings.Repeat("x", 2047) + `"`},
	{text("~"), 2, 1, `"~"`},
	{text("\x7f"), 2, 1, `"\x7f"`},
	{text("\x80"), 2, 1, `"\x80"`},
	{text("\u00e9"), 3, 1, `"\xc3\xa9"`},
	{text("\u65e5a\u672c"), 8, 1, `"\xe6\x97\xa5a\xe6\x9c\xac"`},
	{text("\ufffd"), 4, 1, `"\xef\xbf\xbd"`},
	{text("\xff\xfe"), 3, 1, `"\xff\xfe"`},
	{list(), 1, 1, "[]"},
	{list(unit), 2, 2, "[unit]"},
	{list(unit, text("ab")), 5, 2, `[unit, "ab"]`},
	{list(number(1)), 2, 2, "[1]"},
	{list(number(1), number(1)), 3, 2, "[1, 1]"},
	{list(number(2)), 2, 2, "[2]"},
	{list(list(), number(3)), 3, 2, "[[], 3]"},
	{list(list(unit), number(-3)), 4, 3, "[[unit], -3]"},
	{list(record(""), list()), 3, 2, "[{}, []]"},
	{record(""), 1, 1, "{}"},
	{under("", unit), 3, 2, `{"": unit}`},
	{under("", number(5)), 3, 2, `{"": 5}`},
	{under(`"\`, unit), 5, 2, `{"\"\\": unit}`},
	{under("a", truth(0)), 4, 2, `{"a": false}`},
	{record("a ab", truth(0), unit), 8, 2, `{"a": false, "ab": unit}`},
	{record("a b", truth(0), unit), 7, 2, `{"a": false, "b": unit}`},
	{record("a b", truth(0), list(number(7))), 8, 3, `{"a": false, "b": [7]}`},
	{under("a", number(7)), 4, 2, `{"a": 7}`},
	{under("b", unit), 4, 2, `{"b": unit}`},
	{under(longKey, unit), 35, 2, `{"` + longKey + `": unit}`},
	{under("\xff", unit), 4, 2, `{"\xff": unit}`},
}

// wrongs are values that are not right, each for one reason.
var wrongs = []api.Value{
	{Kind: -1}, {Kind: 6}, {Kind: math.MaxInt}, {Kind: math.MinInt}, {Kind: 6, L: []api.Value{unit}},
	{N: 1}, {S: "a"}, {L: []api.Value{{}}}, {K: []string{""}},
	truth(2), truth(-1), truth(math.MinInt64),
	{Kind: api.Bool, S: "a"}, {Kind: api.Bool, N: 1, S: "\x00"}, {Kind: api.Bool, L: []api.Value{{}}}, {Kind: api.Bool, K: []string{"a"}},
	{Kind: api.Int, S: "a"}, {Kind: api.Int, L: []api.Value{{}}}, {Kind: api.Int, K: []string{""}},
	{Kind: api.Bytes, N: 1}, {Kind: api.Bytes, L: []api.Value{{}}}, {Kind: api.Bytes, K: []string{""}}, {Kind: api.Bytes, L: []api.Value{{}}, K: []string{""}},
	{Kind: api.Array, N: -1}, {Kind: api.Array, S: "a"}, {Kind: api.Array, K: []string{""}}, {Kind: api.Array, L: []api.Value{{}}, K: []string{""}},
	{Kind: api.Record, N: 1}, {Kind: api.Record, S: "a"}, {Kind: api.Record, L: []api.Value{{}}}, {Kind: api.Record, K: []string{""}},
	record("a", unit, unit), record("a b", unit),
	record("b a", unit, unit), record("a a", unit, unit), record("a b b", unit, unit, unit), record("a c b", unit, unit, unit), record("ab a", unit, unit),
	{Kind: api.Record, K: []string{"a", ""}, L: []api.Value{{}, {}}},
	under(tooLongKey, unit), record("a "+tooLongKey, unit, unit), record(tooLongKey+" l", unit, unit),
	list(truth(2)), list(unit, truth(2)), list(unit, api.Value{Kind: 6}, unit), under("a", truth(2)), record("a b", unit, list(api.Value{S: "a"})),
	text(strings.Repeat("x", 2048)), units(2048), units(5000), list(text(strings.Repeat("x", 2047))), list(text(strings.Repeat("x", 1023)), text(strings.Repeat("x", 1023))),
	wide(256), under("a", text(strings.Repeat("x", 2045))), list(wide(255), text("abcdef")),
	arrays(8, unit), arrays(9, unit), records(8, unit), list(unit, arrays(7, unit)), arrays(8, list()), under("", arrays(7, unit)), arrays(60000, unit),
	endless(1), endless(2), endless(2000), thick(40, 8), thick(3000, 8),
}

// edges are right values at the greatest weight and depth.
var edges = []struct {
	v             api.Value
	weight, depth int
}{
	{text(strings.Repeat("\x00", 2047)), 2048, 1},
	{units(2047), 2048, 2},
	{list(text(strings.Repeat("x", 2046))), 2048, 2},
	{list(text(strings.Repeat("x", 1023)), text(strings.Repeat("x", 1022))), 2048, 2},
	{wide(255), 2041, 2},
	{list(wide(255), text("abcde")), 2048, 3},
	{under("a", text(strings.Repeat("x", 2044))), 2048, 2},
	{arrays(7, unit), 8, 8},
	{arrays(7, list()), 8, 8},
	{arrays(7, record("")), 8, 8},
	{records(7, unit), 15, 8},
	{list(arrays(6, unit), unit), 9, 8},
	{list(unit, arrays(6, units(0)), unit), 10, 8},
	{arrays(7, text(strings.Repeat("x", 2040))), 2048, 8},
}

func TestP31RightWeightDepth(t *testing.T) {
	for _, x := range rights {
		if !value.Right(x.v) || value.Weight(x.v) != x.weight || value.Depth(x.v) != x.depth {
			t.Errorf("%s: %v, %d, %d, want true, %d, %d", x.text, value.Right(x.v), value.Weight(x.v), value.Depth(x.v), x.weight, x.depth)
		}
	}
}

func TestP31Edges(t *testing.T) {
	for i, x := range edges {
		if !value.Right(x.v) || value.Weight(x.v) != x.weight || value.Depth(x.v) != x.depth {
			t.Errorf("edge %d: %v, %d, %d, want true, %d, %d", i, value.Right(x.v), value.Weight(x.v), value.Depth(x.v), x.weight, x.depth)
		}
	}
}

func TestP31Wrong(t *testing.T) {
	for i, v := range wrongs {
		if value.Right(v) || value.Weight(v) != 0 || value.Depth(v) != 0 {
			t.Errorf("wrong %d: %v, %d, %d, want false, 0, 0", i, value.Right(v), value.Weight(v), value.Depth(v))
		}
	}
}

// A field that a kind does not use is zero as an empty list as well as nil.
func TestP31NoElements(t *testing.T) {
	for kind := api.Unit; kind <= api.Record; kind++ {
		for _, l := range [][]api.Value{nil, {}, units(3).L[:0]} {
			for _, k := range [][]string{nil, {}, []string{"b", "a"}[:0]} {
				v := api.Value{Kind: kind, L: l, K: k}
				if !value.Right(v) || value.Weight(v) != 1 || value.Depth(v) != 1 {
					t.Errorf("kind %d: %v, %d, %d, want true, 1, 1", kind, value.Right(v), value.Weight(v), value.Depth(v))
				}
				if value.Compare(v, api.Value{Kind: kind}) != 0 || value.Print(v) != value.Print(api.Value{Kind: kind}) {
					t.Errorf("kind %d: empty lists and nil ones are not the same", kind)
				}
			}
		}
	}
}

func TestP32ComparePairs(t *testing.T) {
	for i, a := range rights {
		for j, b := range rights {
			if got := value.Compare(a.v, b.v); got != cmp.Compare(i, j) {
				t.Errorf("Compare(%.40s, %.40s) = %d, want %d", a.text, b.text, got, cmp.Compare(i, j))
			}
		}
	}
}

func TestP32CompareLate(t *testing.T) {
	many := func(last api.Value) api.Value { return list(append(units(2000).L, last)...) }
	keyed := func(change func(*api.Value)) api.Value {
		r := wide(200)
		change(&r)
		return r
	}
	for i, x := range []struct{ a, b api.Value }{
		{text(strings.Repeat("x", 2046) + "a"), text(strings.Repeat("x", 2046) + "b")},
		{text(strings.Repeat("x", 2046)), text(strings.Repeat("x", 2047))},
		{many(unit), many(truth(0))},
		{many(number(3)), many(number(4))},
		{units(2046), units(2047)},
		{arrays(7, number(1)), arrays(7, number(2))},
		{records(7, number(1)), records(7, number(2))},
		{wide(199), wide(200)},
		{keyed(func(r *api.Value) { r.L[199] = truth(0) }), keyed(func(r *api.Value) { r.L[199] = truth(1) })},
		{wide(200), keyed(func(r *api.Value) { r.K[199] = "000200" })},
		// Behind the first place that is not the same nothing counts: not a later element, not how many there are.
		{list(number(1), number(9), number(9)), list(number(2))},
		{list(number(1), number(9)), list(number(2), number(0))},
		{record("a b", number(1), number(9)), record("a b", number(2), number(0))},
		{record("a c", number(1), number(0)), record("b c", number(0), number(0))},
		{record("a b", number(9), number(9)), record("a c", number(9), number(0))},
		{record("a b", number(0), number(0)), record("a", number(1))},
		{record("a b c", unit, unit, unit), record("b", unit)},
		// By a kind's number ahead of all else.
		{text(strings.Repeat("x", 2047)), list()},
		{list(record("a", list())), record("")},
		{number(math.MaxInt64), text("")},
	} {
		if value.Compare(x.a, x.b) != -1 || value.Compare(x.b, x.a) != 1 || value.Compare(x.a, x.a) != 0 || value.Compare(x.b, x.b) != 0 {
			t.Errorf("late %d: %d, %d, want -1, 1", i, value.Compare(x.a, x.b), value.Compare(x.b, x.a))
		}
	}
}

func TestP32CompareWrong(t *testing.T) {
	for i, wrong := range wrongs {
		for _, x := range rights {
			if value.Compare(wrong, x.v) != 0 || value.Compare(x.v, wrong) != 0 {
				t.Errorf("Compare of wrong %d and %.40s is not 0", i, x.text)
			}
		}
		if value.Compare(wrong, wrongs[(i+1)%len(wrongs)]) != 0 {
			t.Errorf("Compare of wrong %d and the next one is not 0", i)
		}
	}
}

func TestP33Print(t *testing.T) {
	for _, x := range rights {
		if got := value.Print(x.v); got != x.text {
			t.Errorf("Print = %s, want %s", got, x.text)
		}
	}
	for i, v := range wrongs {
		if got := value.Print(v); got != "" {
			t.Errorf("Print of wrong %d = %.40s, want nothing", i, got)
		}
	}
}

// byteText is a byte as the chapter tells it.
func byteText(c byte) string {
	switch {
	case c == '"':
		return `\"`
	case c == '\\':
		return `\\`
	case c >= 0x20 && c <= 0x7e:
		return string(rune(c))
	}
	return fmt.Sprintf(`\x%02x`, c)
}

func TestP33PrintEachByte(t *testing.T) {
	all, want := "", ""
	for i := range 256 {
		c := byte(i)
		s := string([]byte{c})
		all += s
		want += byteText(c)
		if got := value.Print(text(s)); got != `"`+byteText(c)+`"` {
			t.Errorf("Print of %02x = %s", c, got)
		}
		if got := value.Print(under(s, text("a"+s+"\xc3"))); got != `{"`+byteText(c)+`": "a`+byteText(c)+`\xc3"}` {
			t.Errorf("Print of the key %02x = %s", c, got)
		}
	}
	if got := value.Print(text(all)); got != `"`+want+`"` {
		t.Errorf("Print of all bytes = %s, want %s", got, want)
	}
}

// Rows of bytes that make runes, that break off within one, and that make none.
func TestP33PrintRows(t *testing.T) {
	letters := []byte{0x00, 'a', '"', '\\', 0x7f, 0x80, 0xbf, 0xc3, 0xe2, 0xef, 0xf0, 0x9f, 0xff}
	dice := rand.New(rand.NewSource(3))
	for range 5000 {
		b := make([]byte, dice.Intn(9))
		want := ""
		for i := range b {
			b[i] = letters[dice.Intn(len(letters))]
			want += byteText(b[i])
		}
		if got := value.Print(text(string(b))); got != `"`+want+`"` {
			t.Fatalf("Print of % x = %s, want %s", b, got, want)
		}
	}
}

func TestP33Copy(t *testing.T) {
	for _, x := range rights {
		if got := value.Copy(x.v); !same(got, x.v) {
			t.Errorf("Copy of %.40s = %.40v", x.text, got)
		}
	}
	for i, x := range edges {
		if !same(value.Copy(x.v), x.v) {
			t.Errorf("Copy of edge %d is another one", i)
		}
	}
	for i, v := range wrongs {
		if got := value.Copy(v); !zero(got) {
			t.Errorf("Copy of wrong %d = %.40v, want the zero Value", i, got)
		}
	}
}

// same: element by element, by what the document says of two values.
func same(a, b api.Value) bool {
	return a.Kind == b.Kind && a.N == b.N && a.S == b.S && slices.Equal(a.K, b.K) && slices.EqualFunc(a.L, b.L, same)
}

func zero(v api.Value) bool { return same(v, unit) }

func entries(keys string, l ...api.Value) []api.Entry {
	var out []api.Entry
	for i, key := range strings.Fields(keys) {
		out = append(out, api.Entry{Key: key, Value: l[i]})
	}
	return out
}

// manyEntries have keys of four bytes, each with Unit.
func manyEntries(count int) []api.Entry {
	l := make([]api.Entry, count)
	for i := range l {
		l[i].Key = fmt.Sprintf("%04d", i)
	}
	return l
}

func TestP34Record(t *testing.T) {
	for i, x := range []struct {
		l    []api.Entry
		want api.Value
	}{
		{nil, record("")},
		{[]api.Entry{}, record("")},
		{[]api.Entry{{Value: number(1)}}, under("", number(1))},
		{entries("a", number(1)), under("a", number(1))},
		{entries("b a c", number(1), list(unit), text("x")), record("a b c", list(unit), number(1), text("x"))},
		{entries("c b a", number(1), number(2), number(3)), record("a b c", number(3), number(2), number(1))},
		{append(entries("\xff a Z", number(1), number(2), number(3)), api.Entry{Key: ""}), api.Value{Kind: api.Record, K: []string{"", "Z", "a", "\xff"}, L: []api.Value{unit, number(3), number(2), number(1)}}},
		{entries("aa a ab", number(1), number(2), number(3)), record("a aa ab", number(2), number(1), number(3))},
		{entries(longKey+" "+longKey[1:], number(1), number(2)), record(longKey[1:]+" "+longKey, number(2), number(1))},
		{entries("a", arrays(6, unit)), under("a", arrays(6, unit))},
		{entries("a", text(strings.Repeat("x", 2044))), under("a", text(strings.Repeat("x", 2044)))},
	} {
		got, e := value.Record(x.l)
		if e != api.OK || !same(got, x.want) {
			t.Errorf("Record %d = %.40v, %v, want %v", i, got, e, x.want)
		}
	}
}

// 2047 of the 2048 units of weight are for keys and values: six each of the keys of four bytes, so 341 of them are the most.
func TestP34RecordMost(t *testing.T) {
	got, e := value.Record(manyEntries(341))
	if e != api.OK || len(got.K) != 341 || value.Weight(got) != 1+341*6 {
		t.Errorf("Record of 341 entries: %d keys, %v", len(got.K), e)
	}
}

func TestP34RecordErrors(t *testing.T) {
	wrong := truth(2)
	long := func(l []api.Entry) []api.Entry { return append(l, api.Entry{Key: tooLongKey, Value: wrong}) }
	heavy := text(strings.Repeat("x", 1500))
	for i, x := range []struct {
		l    []api.Entry
		want api.Errno
	}{
		{manyEntries(342), api.ErrValueSize},
		{manyEntries(2048), api.ErrValueSize},
		{manyEntries(2049), api.ErrValueSize},
		{long(manyEntries(2048)), api.ErrValueSize},
		{long(manyEntries(2047)), api.ErrValueKey},
		{append(manyEntries(2047), manyEntries(1)...), api.ErrValueKey},
		{append(manyEntries(2047), api.Entry{Key: "x", Value: wrong}), api.ErrValueForm},
		{append(manyEntries(2048), manyEntries(1)...), api.ErrValueSize},
		{entries("a a", unit, unit), api.ErrValueKey},
		{entries("a a", unit, number(1)), api.ErrValueKey},
		{entries("a b a", unit, unit, unit), api.ErrValueKey},
		{entries("b c a c", wrong, unit, heavy, heavy), api.ErrValueKey},
		{[]api.Entry{{}, {}}, api.ErrValueKey},
		{entries(tooLongKey, unit), api.ErrValueKey},
		{entries(tooLongKey, wrong), api.ErrValueKey},
		{entries("a "+tooLongKey, wrong, heavy), api.ErrValueKey},
		{entries("a", wrong), api.ErrValueForm},
		{entries("a b c", unit, wrong, unit), api.ErrValueForm},
		{entries("a b c", heavy, heavy, wrong), api.ErrValueForm},
		{entries("a", arrays(8, unit)), api.ErrValueForm},
		{entries("a", text(strings.Repeat("x", 2048))), api.ErrValueForm},
		{entries("a", endless(1)), api.ErrValueForm},
		{entries("a b", heavy, heavy), api.ErrValueSize},
		{entries("a", arrays(7, unit)), api.ErrValueSize},
		{entries("a b", unit, arrays(7, unit)), api.ErrValueSize},
		{entries("a", text(strings.Repeat("x", 2045))), api.ErrValueSize},
	} {
		got, e := value.Record(x.l)
		if e != x.want || !zero(got) {
			t.Errorf("Record %d = %.40v, %v, want %v", i, got, e, x.want)
		}
	}
	for i, v := range wrongs {
		if got, e := value.Record(entries("a", v)); e != api.ErrValueForm || !zero(got) {
			t.Errorf("Record of wrong %d = %.40v, %v", i, got, e)
		}
	}
}

var abc = record("a c e", number(1), list(text("x")), under("k", unit))

func TestP35Get(t *testing.T) {
	for _, x := range []struct {
		r    api.Value
		key  string
		want api.Value
	}{
		{abc, "a", number(1)},
		{abc, "c", list(text("x"))},
		{abc, "e", under("k", unit)},
		{under("", text("none")), "", text("none")},
		{under("a", unit), "a", unit},
		{under(longKey, number(3)), longKey, number(3)},
		{wide(255), "000000", unit},
		{wide(255), "000254", unit},
	} {
		if got, ok := value.Get(x.r, x.key); !ok || !same(got, x.want) {
			t.Errorf("Get of %q = %.40v, %v, want %.40v", x.key, got, ok, x.want)
		}
	}
	for i := range 255 {
		r := wide(255)
		r.L[i] = number(int64(i))
		if got, ok := value.Get(r, r.K[i]); !ok || !same(got, number(int64(i))) {
			t.Errorf("Get of key %d = %.40v, %v", i, got, ok)
		}
	}
}

func TestP35GetNothing(t *testing.T) {
	for _, key := range []string{"", "A", "a\x00", "aa", "b", "d", "f", "\xff", longKey, tooLongKey} {
		if got, ok := value.Get(abc, key); ok || !zero(got) {
			t.Errorf("Get of %q = %.40v, %v, want nothing", key, got, ok)
		}
	}
	for _, r := range []api.Value{unit, truth(1), number(1), text("a"), list(number(1)), record("")} {
		if got, ok := value.Get(r, ""); ok || !zero(got) {
			t.Errorf("Get of %v = %.40v, %v, want nothing", r, got, ok)
		}
	}
	for i, r := range wrongs {
		for _, key := range append(slices.Clone(r.K), "", "a", "b") {
			if got, ok := value.Get(r, key); ok || !zero(got) {
				t.Errorf("Get of wrong %d, %q = %.40v, %v, want nothing", i, key, got, ok)
			}
		}
	}
}

func TestP36With(t *testing.T) {
	a, c, e := abc.L[0], abc.L[1], abc.L[2]
	for i, x := range []struct {
		r    api.Value
		key  string
		want api.Value
	}{
		{abc, "a", record("a c e", text("new"), c, e)},
		{abc, "c", record("a c e", a, text("new"), e)},
		{abc, "e", record("a c e", a, c, text("new"))},
		{abc, "A", record("A a c e", text("new"), a, c, e)},
		{abc, "b", record("a b c e", a, text("new"), c, e)},
		{abc, "cc", record("a c cc e", a, c, text("new"), e)},
		{abc, "f", record("a c e f", a, c, e, text("new"))},
		{abc, longKey, record("a c e "+longKey, a, c, e, text("new"))},
		{abc, "", api.Value{Kind: api.Record, K: []string{"", "a", "c", "e"}, L: []api.Value{text("new"), a, c, e}}},
		{record(""), "a", under("a", text("new"))},
		{record(""), "", under("", text("new"))},
		{under("", number(1)), "", under("", text("new"))},
	} {
		if got, e := value.With(x.r, x.key, text("new")); e != api.OK || !same(got, x.want) {
			t.Errorf("With %d = %.40v, %v, want %v", i, got, e, x.want)
		}
	}
}

// At the greatest weight and depth, and one beyond.
func TestP36WithSize(t *testing.T) {
	full := under("a", text(strings.Repeat("x", 2044)))
	for i, x := range []struct {
		r    api.Value
		key  string
		x    api.Value
		want api.Errno
	}{
		{record(""), "a", text(strings.Repeat("x", 2044)), api.OK},
		{record(""), "a", text(strings.Repeat("x", 2045)), api.ErrValueSize},
		{record(""), "", text(strings.Repeat("x", 2045)), api.OK},
		{full, "a", text(strings.Repeat("y", 2044)), api.OK},
		{full, "a", text(strings.Repeat("y", 2045)), api.ErrValueSize},
		{full, "a", unit, api.OK},
		{full, "b", unit, api.ErrValueSize},
		{full, "", unit, api.ErrValueSize},
		{under("a", text(strings.Repeat("x", 2042))), "", unit, api.OK},
		{under("a", text(strings.Repeat("x", 2043))), "", unit, api.ErrValueSize},
		{wide(255), "x", text("abcd"), api.OK},
		{wide(255), "x", text("abcde"), api.ErrValueSize},
		{abc, "b", arrays(6, unit), api.OK},
		{abc, "b", arrays(7, unit), api.ErrValueSize},
		{abc, "a", arrays(7, unit), api.ErrValueSize},
		{records(7, unit), "", unit, api.OK},
		{records(7, unit), "b", list(), api.OK},
	} {
		got, e := value.With(x.r, x.key, x.x)
		if e != x.want || value.Right(got) != true || (e != api.OK && !zero(got)) {
			t.Errorf("With %d = %.80v, %v, want %v", i, got, e, x.want)
		}
	}
}

func TestP36WithErrors(t *testing.T) {
	heavy := text(strings.Repeat("x", 2047))
	for i, x := range []struct {
		r    api.Value
		key  string
		x    api.Value
		want api.Errno
	}{
		{record("b a", unit, unit), "a", unit, api.ErrValueForm},
		{record(""), tooLongKey, truth(2), api.ErrValueForm},
		{number(1), tooLongKey, truth(2), api.ErrValueForm},
		{truth(2), tooLongKey, heavy, api.ErrValueForm},
		{unit, "a", unit, api.ErrValueKind},
		{truth(1), "a", unit, api.ErrValueKind},
		{number(1), "a", unit, api.ErrValueKind},
		{text("a"), "a", unit, api.ErrValueKind},
		{list(), "a", unit, api.ErrValueKind},
		{list(number(1)), tooLongKey, heavy, api.ErrValueKind},
		{abc, tooLongKey, unit, api.ErrValueKey},
		{abc, tooLongKey, heavy, api.ErrValueKey},
		{record(""), strings.Repeat("k", 100000), unit, api.ErrValueKey},
		{abc, longKey, heavy, api.ErrValueSize},
	} {
		if got, e := value.With(x.r, x.key, x.x); e != x.want || !zero(got) {
			t.Errorf("With %d = %.40v, %v, want %v", i, got, e, x.want)
		}
	}
	for i, v := range wrongs {
		if got, e := value.With(v, "a", unit); e != api.ErrValueForm || !zero(got) {
			t.Errorf("With of wrong %d = %.40v, %v", i, got, e)
		}
		if got, e := value.With(abc, "a", v); e != api.ErrValueForm || !zero(got) {
			t.Errorf("With wrong %d put = %.40v, %v", i, got, e)
		}
	}
}

func TestP36Without(t *testing.T) {
	a, c, e := abc.L[0], abc.L[1], abc.L[2]
	for _, x := range []struct {
		r    api.Value
		key  string
		want api.Value
	}{
		{abc, "a", record("c e", c, e)},
		{abc, "c", record("a e", a, e)},
		{abc, "e", record("a c", a, c)},
		{under("", number(1)), "", record("")},
		{under(longKey, number(1)), longKey, record("")},
		{records(7, unit), "", record("")},
	} {
		if got, e := value.Without(x.r, x.key); e != api.OK || !same(got, x.want) {
			t.Errorf("Without %q = %.40v, %v, want %v", x.key, got, e, x.want)
		}
	}
}

func TestP36WithoutErrors(t *testing.T) {
	for _, key := range []string{"", "A", "aa", "b", "d", "f", longKey, tooLongKey} {
		if got, e := value.Without(abc, key); e != api.ErrValueKey || !zero(got) {
			t.Errorf("Without %q = %.40v, %v, want ErrValueKey", key, got, e)
		}
	}
	if got, e := value.Without(record(""), ""); e != api.ErrValueKey || !zero(got) {
		t.Errorf("Without of no keys = %.40v, %v, want ErrValueKey", got, e)
	}
	for _, r := range []api.Value{unit, truth(1), number(1), text("a"), list(number(1))} {
		if got, e := value.Without(r, "a"); e != api.ErrValueKind || !zero(got) {
			t.Errorf("Without of %v = %.40v, %v, want ErrValueKind", r, got, e)
		}
	}
	for i, r := range wrongs {
		for _, key := range append(slices.Clone(r.K), "a", "") {
			if got, e := value.Without(r, key); e != api.ErrValueForm || !zero(got) {
				t.Errorf("Without of wrong %d = %.40v, %v, want ErrValueForm", i, got, e)
			}
		}
	}
}

// The rows of the chapter's table that stand in no table above.
func TestExamples(t *testing.T) {
	r, e := value.Record([]api.Entry{{Key: "a", Value: list(unit, number(-5))}, {Key: `"`, Value: text("\n")}})
	if got := value.Print(r); e != api.OK || got != `{"\"": "\x0a", "a": [unit, -5]}` {
		t.Errorf("Print of Record = %s, %v", got, e)
	}
	with, e := value.With(r, "a", number(1))
	if got := value.Print(with); e != api.OK || got != `{"\"": "\x0a", "a": 1}` {
		t.Errorf("Print of With = %s, %v", got, e)
	}
	if got, e := value.Without(r, "b"); e != api.ErrValueKey || !zero(got) {
		t.Errorf("Without = %.40v, %v", got, e)
	}
	if got, e := value.With(number(1), "a", number(1)); e != api.ErrValueKind || !zero(got) {
		t.Errorf("With of an Int = %.40v, %v", got, e)
	}
	if !value.Right(arrays(7, list())) || value.Right(arrays(8, list())) {
		t.Error("arrays eight and nine deep")
	}
	if !value.Right(text(strings.Repeat("x", 2047))) || value.Right(text(strings.Repeat("x", 2048))) {
		t.Error("bytes of 2047 and 2048")
	}
}

// piece is some memory of a value: a list with its spare room, or a text.
type piece struct{ from, to uintptr }

func listPiece[T any](l []T) []piece {
	if cap(l) == 0 {
		return nil
	}
	from := uintptr(unsafe.Pointer(unsafe.SliceData(l)))
	return []piece{{from, from + uintptr(cap(l))*unsafe.Sizeof(l[:1][0])}}
}

func textPiece(s string) []piece {
	if s == "" {
		return nil
	}
	from := uintptr(unsafe.Pointer(unsafe.StringData(s)))
	return []piece{{from, from + uintptr(len(s))}}
}

func pieces(v api.Value) []piece {
	out := slices.Concat(listPiece(v.L), listPiece(v.K), textPiece(v.S))
	for _, key := range v.K {
		out = append(out, textPiece(key)...)
	}
	for _, x := range v.L {
		out = append(out, pieces(x)...)
	}
	return out
}

// shared: does one of these pieces meet another one, but for those that were handed in among themselves?
func shared(answer []piece, given ...[]piece) bool {
	for i, a := range answer {
		for _, b := range slices.Concat(answer[i+1:], slices.Concat(given...)) {
			if a.from < b.to && b.from < a.to {
				return true
			}
		}
	}
	return false
}

// fresh makes a value with spare room in its lists, whose texts are no constants.
func fresh(v api.Value) api.Value {
	out := api.Value{Kind: v.Kind, N: v.N, S: strings.Clone(v.S), L: make([]api.Value, 0, len(v.L)+3), K: make([]string, 0, len(v.K)+3)}
	for _, key := range v.K {
		out.K = append(out.K, strings.Clone(key))
	}
	for _, x := range v.L {
		out.L = append(out.L, fresh(x))
	}
	for i := range 3 {
		out.L[:cap(out.L)][len(out.L)+i] = number(77)
		out.K[:cap(out.K)][len(out.K)+i] = "spare"
	}
	return out
}

// untouched: is what fresh made of v still so, its spare room too?
func untouched(made, v api.Value) bool {
	if !same(made, v) {
		return false
	}
	for i := range 3 {
		if !same(made.L[:cap(made.L)][len(made.L)+i], number(77)) || made.K[:cap(made.K)][len(made.K)+i] != "spare" {
			return false
		}
	}
	for i, x := range made.L {
		if !untouched(x, v.L[i]) {
			return false
		}
	}
	return true
}

func TestP37Copy(t *testing.T) {
	for _, x := range rights {
		given := fresh(x.v)
		if shared(pieces(value.Copy(given)), pieces(given)) || !untouched(given, x.v) {
			t.Errorf("Copy of %.40s shares memory or changes it", x.text)
		}
	}
	inner := list(text("inner"), under("k", unit))
	given := list(inner, inner, under("a", inner))
	if got := value.Copy(given); !same(got, given) || shared(pieces(got), pieces(given)) {
		t.Error("Copy of what stands twice shares memory")
	}
}

func TestP37Asking(t *testing.T) {
	for _, x := range append(rights, rights[0]) {
		given, other := fresh(x.v), fresh(abc)
		value.Right(given)
		value.Weight(given)
		value.Depth(given)
		value.Compare(given, other)
		value.Compare(other, given)
		value.Print(given)
		if !untouched(given, x.v) || !untouched(other, abc) {
			t.Errorf("%.40s was changed", x.text)
		}
	}
}

func TestP37Get(t *testing.T) {
	for _, key := range []string{"a", "c", "e", "x"} {
		given := fresh(abc)
		got, _ := value.Get(given, key)
		if shared(pieces(got), pieces(given)) || !untouched(given, abc) {
			t.Errorf("Get of %q shares memory or changes it", key)
		}
	}
}

func TestP37With(t *testing.T) {
	put := list(text("put"), under("k", text("v")))
	for _, key := range []string{"", "a", "b", "c", "d", "e", "f", "x", tooLongKey} {
		given, x, own := fresh(abc), fresh(put), strings.Clone(key)
		got, _ := value.With(given, own, x)
		if shared(pieces(got), pieces(given), pieces(x), textPiece(own)) || !untouched(given, abc) || !untouched(x, put) {
			t.Errorf("With %q shares memory or changes it", key)
		}
	}
	given := fresh(abc)
	got, e := value.With(given, "b", given)
	if e != api.OK || shared(pieces(got), pieces(given)) || !same(got.L[1], abc) {
		t.Error("With of a record under its own key shares memory")
	}
}

func TestP37Without(t *testing.T) {
	for _, key := range []string{"a", "c", "e", "x"} {
		given := fresh(abc)
		got, _ := value.Without(given, key)
		if shared(pieces(got), pieces(given)) || !untouched(given, abc) {
			t.Errorf("Without %q shares memory or changes it", key)
		}
	}
}

func TestP37Record(t *testing.T) {
	x := fresh(list(text("one"), under("k", unit)))
	room := make([]api.Entry, 5)
	for i, key := range []string{"c", "a", "b", "spare", "a"} {
		room[i] = api.Entry{Key: strings.Clone(key), Value: x}
	}
	given := slices.Clone(room)
	got, e := value.Record(given[:3])
	memory := slices.Concat(listPiece(given), pieces(x))
	for i, entry := range given {
		memory = append(memory, textPiece(entry.Key)...)
		if entry.Key != room[i].Key || !same(entry.Value, x) {
			t.Errorf("Record changed entry %d", i)
		}
	}
	if e != api.OK || shared(pieces(got), memory) {
		t.Errorf("Record shares memory: %v", e)
	}
}

// randomValue is right or not, mostly right.
func randomValue(dice *rand.Rand, deep int) api.Value {
	v := api.Value{Kind: dice.Intn(6)}
	if deep == 0 {
		v.Kind = dice.Intn(4)
	}
	switch v.Kind {
	case api.Bool:
		v.N = int64(dice.Intn(2))
	case api.Int:
		v.N = int64(dice.Intn(5) - 2)
	case api.Bytes:
		v.S = strings.Repeat(`a"`, dice.Intn(3))
	case api.Array:
		for range dice.Intn(4) {
			v.L = append(v.L, randomValue(dice, deep-1))
		}
	case api.Record:
		for _, key := range []string{"", "a", "ab", "b", "\xff"} {
			if dice.Intn(2) == 0 {
				v.K = append(v.K, key)
				v.L = append(v.L, randomValue(dice, deep-1))
			}
		}
	}
	switch dice.Intn(300) {
	case 0:
		v.N += 2
	case 1:
		v.S += "x"
	case 2:
		v.L = append(v.L, unit)
	case 3:
		v.K = append(v.K, "a")
	case 4:
		v.Kind++
	}
	return v
}

func randomValues(seed int64, count, deep int) []api.Value {
	dice := rand.New(rand.NewSource(seed))
	out := make([]api.Value, count)
	for i := range out {
		out[i] = randomValue(dice, deep)
	}
	return out
}

// plain is what the document's table says of a value, from its innermost values outwards: weight and depth, 0 of one that is not right.
func plain(v api.Value) (weight, depth int) {
	weight = 1
	unused := v
	unused.Kind = 0
	switch v.Kind {
	case api.Unit:
	case api.Bool:
		if v.N == 0 || v.N == 1 {
			unused.N = 0
		}
	case api.Int:
		unused.N = 0
	case api.Bytes:
		unused.S = ""
		weight += len(v.S)
	case api.Array:
		unused.L = nil
	case api.Record:
		unused.L, unused.K = nil, nil
		ordered := slices.IsSorted(v.K) && len(slices.Compact(slices.Clone(v.K))) == len(v.K)
		if len(v.K) != len(v.L) || !ordered {
			return 0, 0
		}
		for _, key := range v.K {
			if len(key) > 32 {
				return 0, 0
			}
			weight += 1 + len(key)
		}
	default:
		return 0, 0
	}
	for _, x := range v.L {
		w, d := plain(x)
		if w == 0 {
			return 0, 0
		}
		weight += w
		depth = max(depth, d)
	}
	if depth++; !zero(unused) || weight > 2048 || depth > 8 {
		return 0, 0
	}
	return weight, depth
}

func TestP31AgainstTheTable(t *testing.T) {
	right := 0
	for _, v := range append(randomValues(1, 20000, 4), randomValues(2, 500, 9)...) {
		weight, depth := plain(v)
		if weight > 0 {
			right++
		}
		if value.Right(v) != (weight > 0) || value.Weight(v) != weight || value.Depth(v) != depth {
			t.Fatalf("%v: %v, %d, %d, want %d, %d", v, value.Right(v), value.Weight(v), value.Depth(v), weight, depth)
		}
	}
	if right < 5000 || right > 20000 {
		t.Errorf("of the values %d were right: the test asks too little", right)
	}
}

func TestP38Order(t *testing.T) {
	values := slices.DeleteFunc(randomValues(5, 150, 3), func(v api.Value) bool { return !value.Right(v) })
	for _, a := range values {
		for _, b := range values {
			ab := value.Compare(a, b)
			if ab != -value.Compare(b, a) {
				t.Fatalf("%v, %v: no opposites", a, b)
			}
			if (ab == 0) != (value.Print(a) == value.Print(b)) || (ab == 0) != same(a, b) {
				t.Fatalf("%v, %v: %d, but the texts are %s, %s", a, b, ab, value.Print(a), value.Print(b))
			}
			for _, c := range values {
				if ab <= 0 && value.Compare(b, c) <= 0 && value.Compare(a, c) != min(ab, value.Compare(b, c)) {
					t.Fatalf("%v, %v, %v: no order", a, b, c)
				}
			}
		}
	}
}

func TestP38RecordOfAnyOrder(t *testing.T) {
	dice := rand.New(rand.NewSource(7))
	for _, count := range []int{2, 3, 5, 20, 341} {
		l := manyEntries(count)
		for i := range l {
			l[i].Value = number(int64(i))
		}
		want, e := value.Record(l)
		if e != api.OK || !slices.IsSorted(want.K) {
			t.Fatalf("Record of %d entries: %v", count, e)
		}
		for range 10 {
			dice.Shuffle(count, func(i, j int) { l[i], l[j] = l[j], l[i] })
			if got, e := value.Record(l); e != api.OK || !same(got, want) {
				t.Errorf("Record of %d shuffled entries is another one: %v", count, e)
			}
		}
	}
}

func TestP38GetOfWith(t *testing.T) {
	keys := []string{"", "A", "a", "aa", "ab", "b", "z", "\xff", "\xff\xff", longKey}
	for _, r := range randomValues(9, 4000, 3) {
		if !value.Right(r) || r.Kind != api.Record {
			continue
		}
		for _, key := range keys {
			with, e := value.With(r, key, text("put"))
			if e != api.OK {
				t.Fatalf("With(%v, %q): %v", r, key, e)
			}
			for _, other := range keys {
				got, ok := value.Get(with, other)
				want, was := value.Get(r, other)
				if other == key {
					want, was = text("put"), true
				}
				if ok != was || !same(got, want) {
					t.Fatalf("Get(With(%v, %q), %q) = %.40v, %v", r, key, other, got, ok)
				}
			}
			if _, was := value.Get(r, key); !was {
				back, e := value.Without(with, key)
				if e != api.OK || !same(back, r) || value.Compare(back, r) != 0 {
					t.Fatalf("Without(With(%v, %q)) = %.40v, %v", r, key, back, e)
				}
			}
		}
	}
}
