package wire_test

import (
	"bytes"
	"encoding/hex"
	"fmt"
	"math"
	"math/big"
	"math/rand"
	"reflect"
	"slices"
	"strings"
	"testing"
	"unsafe"

	"scruple/api"
	"scruple/num"
	"scruple/value"
	"scruple/wire"
)

var unit = api.Value{}

func truth(n int64) api.Value { return api.Value{Kind: api.Bool, N: n} }

func number(n int64) api.Value { return api.Value{Kind: api.Int, N: n} }

func text(s string) api.Value { return api.Value{Kind: api.Bytes, S: s} }

func list(l ...api.Value) api.Value { return api.Value{Kind: api.Array, L: l} }

// record is one of keys, parted by spaces, and their values, laid down as they are told.
func record(keys string, l ...api.Value) api.Value {
	return api.Value{Kind: api.Record, K: strings.Fields(keys), L: l}
}

// under is a record of one key.
func under(key string, x api.Value) api.Value {
	return api.Value{Kind: api.Record, K: []string{key}, L: []api.Value{x}}
}

// arrays is x within so many arrays, records within so many records.
func arrays(count int, x api.Value) api.Value {
	for range count {
		x = list(x)
	}
	return x
}

func records(count int, x api.Value) api.Value {
	for range count {
		x = under("", x)
	}
	return x
}

// units is an array of so many units: its weight is one more.
func units(count int) api.Value { return list(make([]api.Value, count)...) }

// wide is a record of so many keys of six bytes, each with Unit: its weight is 1, and 8 for each key.
func wide(count int) api.Value {
	r := api.Value{Kind: api.Record, L: make([]api.Value, count)}
	for i := range count {
		r.K = append(r.K, fmt.Sprintf("%06d", i))
	}
	return r
}

// endless is an array that holds itself, so often.
func endless(count int) api.Value {
	v := units(count)
	for i := range v.L {
		v.L[i] = v
	}
	return v
}

// same: element by element, by what the document says of two values.
func same(a, b api.Value) bool {
	return a.Kind == b.Kind && a.N == b.N && a.S == b.S && slices.Equal(a.K, b.K) && slices.EqualFunc(a.L, b.L, same)
}

func zero(v api.Value) bool { return reflect.DeepEqual(v, api.Value{}) }

// brief is enough of a value to find it by, right or not.
func brief(v api.Value) string { return fmt.Sprintf("%.80s", fmt.Sprint(v)) }

// row is bytes told by their digits.
func row(s string) []byte {
	b, err := hex.DecodeString(strings.ReplaceAll(s, " ", ""))
	if err != nil {
		panic(err)
	}
	return b
}

// many is a byte's digits, so often.
func many(digits string, count int) string { return strings.Repeat(digits+" ", count) }

// digits is a number's bytes, as digits.
func digits(n uint64) string { return hex.EncodeToString(num.PutUint(nil, n)) + " " }

var longKey = strings.Repeat("k", 32)

// pairs are right values with their bytes, no two the same.
var pairs = []struct {
	v api.Value
	b string
}{
	{unit, "00"},
	{truth(0), "01"},
	{truth(1), "02"},
	{number(0), "03 00"},
	{number(-1), "03 01"},
	{number(1), "03 02"},
	{number(63), "03 7e"},
	{number(-64), "03 7f"},
	{number(64), "03 80 01"},
	{number(300), "03 d8 04"},
	{number(math.MaxInt64), "03 fe" + many("ff", 8) + "01"},
	{number(math.MinInt64), "03 " + many("ff", 9) + "01"},
	{text(""), "04 00"},
	{text("hi"), "04 02 68 69"},
	{text("\x00"), "04 01 00"},
	{text("\xff\x80"), "04 02 ff 80"},
	{text("\u00e9"), "04 02 c3 a9"},
	{text(strings.Repeat("x", 127)), "04 7f" + many("78", 127)},
	{text(strings.Repeat("x", 128)), "04 80 01" + many("78", 128)},
	{text(strings.Repeat("x", 2047)), "04 ff 0f" + many("78", 2047)},
	{list(), "05 00"},
	{list(unit), "05 01 00"},
	{list(unit, number(1)), "05 02 00 03 02"},
	{list(truth(1), truth(0), unit), "05 03 02 01 00"},
	{list(list(), record(""), text("a")), "05 03 05 00 06 00 04 01 61"},
	{units(127), "05 7f" + many("00", 127)},
	{units(128), "05 80 01" + many("00", 128)},
	{units(2047), "05 ff 0f" + many("00", 2047)},
	{record(""), "06 00"},
	{under("", unit), "06 01 00 00"},
	{under("", number(5)), "06 01 00 03 0a"},
	{under("a", list(unit)), "06 01 01 61 05 01 00"},
	{under("\xff\x00", truth(1)), "06 01 02 ff 00 02"},
	{under(longKey, unit), "06 01 20" + many("6b", 32) + "00"},
	{record("a aa b", number(1), text("x"), unit), "06 03 01 61 03 02 02 61 61 04 01 78 01 62 00"},
	{api.Value{Kind: api.Record, K: []string{"", "k"}, L: []api.Value{unit, list()}}, "06 02 00 00 01 6b 05 00"},
	{record("Z a \x7f \x80", unit, unit, unit, unit), "06 04 01 5a 00 01 61 00 01 7f 00 01 80 00"},
	{arrays(7, unit), many("05 01", 7) + "00"},
	{arrays(7, list()), many("05 01", 7) + "05 00"},
	{records(7, record("")), many("06 01 00", 7) + "06 00"},
	{arrays(7, text(strings.Repeat("x", 2040))), many("05 01", 7) + "04 f8 0f" + many("78", 2040)},
	{under("a", text(strings.Repeat("x", 2044))), "06 01 01 61 04 fc 0f" + many("78", 2044)},
}

// wrongs are values that are not right, each for one reason.
var wrongs = []api.Value{
	{Kind: -1}, {Kind: 6}, {Kind: math.MaxInt}, {Kind: math.MinInt}, {Kind: 6, L: []api.Value{unit}},
	{N: 1}, {S: "a"}, {L: []api.Value{{}}}, {K: []string{""}},
	truth(7), truth(2), truth(-1), {Kind: api.Bool, S: "a"}, {Kind: api.Bool, L: []api.Value{{}}}, {Kind: api.Bool, K: []string{""}},
	{Kind: api.Int, S: "a"}, {Kind: api.Int, L: []api.Value{{}}}, {Kind: api.Int, K: []string{""}},
	{Kind: api.Bytes, N: 1}, {Kind: api.Bytes, L: []api.Value{{}}}, {Kind: api.Bytes, K: []string{""}},
	{Kind: api.Array, N: -1}, {Kind: api.Array, S: "a"}, {Kind: api.Array, L: []api.Value{{}}, K: []string{""}},
	{Kind: api.Record, N: 1}, {Kind: api.Record, S: "a"}, {Kind: api.Record, L: []api.Value{{}}}, {Kind: api.Record, K: []string{""}},
	record("b a", unit, unit), record("a a", unit, unit), record("a", unit, unit), record("a b", unit),
	under(longKey+"k", unit), list(truth(2)), under("a", truth(2)), arrays(7, truth(2)),
	text(strings.Repeat("x", 2048)), units(2048), list(text(strings.Repeat("x", 2047))), wide(256), under("a", text(strings.Repeat("x", 2045))),
	arrays(8, unit), arrays(8, list()), records(8, unit), arrays(60000, unit), endless(1), endless(2), endless(2000),
}

// wanted works a value's bytes out from the chapter's table, one part behind the other.
func wanted(v api.Value) []byte {
	switch v.Kind {
	case api.Unit:
		return []byte{0}
	case api.Bool:
		return []byte{[]byte{1, 2}[v.N]}
	case api.Int:
		return num.PutInt([]byte{3}, v.N)
	case api.Bytes:
		return num.PutText([]byte{4}, v.S)
	case api.Array:
		b := num.PutUint([]byte{5}, uint64(len(v.L)))
		for _, x := range v.L {
			b = append(b, wanted(x)...)
		}
		return b
	}
	b := num.PutUint([]byte{6}, uint64(len(v.K)))
	for i, key := range v.K {
		b = append(num.PutText(b, key), wanted(v.L[i])...)
	}
	return b
}

// randomValue is right, unless it is too deep or too heavy.
func randomValue(dice *rand.Rand, deep int) api.Value {
	v := api.Value{Kind: dice.Intn(6)}
	if deep == 0 {
		v.Kind = dice.Intn(4)
	}
	switch v.Kind {
	case api.Bool:
		v.N = int64(dice.Intn(2))
	case api.Int:
		v.N = int64(dice.Uint64()) >> dice.Intn(64)
	case api.Bytes:
		v.S = strings.Repeat("a\x05\xff"[:1+dice.Intn(3)], dice.Intn(4))
	case api.Array:
		for range dice.Intn(4) {
			v.L = append(v.L, randomValue(dice, deep-1))
		}
	case api.Record:
		for _, key := range []string{"", "\x00", "a", "ab", "b", longKey, "\xff"} {
			if dice.Intn(3) == 0 {
				v.K = append(v.K, key)
				v.L = append(v.L, randomValue(dice, deep-1))
			}
		}
	}
	return v
}

// randomRights are right values of which many are made of others.
func randomRights(seed int64, count, deep int) []api.Value {
	dice := rand.New(rand.NewSource(seed))
	var out []api.Value
	for len(out) < count {
		if v := randomValue(dice, deep); value.Right(v) {
			out = append(out, v)
		}
	}
	return out
}

// taken is what Take, or Decode, is to answer.
type taken struct {
	v    api.Value
	next int
	e    api.Errno
}

// told reads a value as P4.2 tells it, with sums of any size.
func told(b []byte, at int) taken {
	if at < 0 || at > len(b) {
		return taken{e: api.ErrWireByte}
	}
	weight := 0
	x := toldValue(b, at, 0, &weight)
	if x.e != api.OK {
		x.v = api.Value{}
	}
	return x
}

// above: is the weight, and n so many times, above 2048?
func above(weight, times int, n uint64) bool {
	sum := new(big.Int).SetUint64(n)
	sum.Mul(sum, big.NewInt(int64(times)))
	sum.Add(sum, big.NewInt(int64(weight)))
	return sum.Cmp(big.NewInt(2048)) > 0
}

func toldValue(b []byte, tag, within int, weight *int) taken {
	if tag >= len(b) || b[tag] > 6 {
		return taken{next: tag, e: api.ErrWireByte}
	}
	if *weight++; within == 8 || *weight > 2048 {
		return taken{next: tag, e: api.ErrWireSize}
	}
	place := tag + 1
	switch b[tag] {
	case 1, 2:
		return taken{v: truth(int64(b[tag]) - 1), next: place}
	case 3:
		n, next, e := num.Int(b, place)
		if e != api.OK {
			return taken{next: place, e: api.ErrWireByte}
		}
		return taken{v: number(n), next: next}
	case 4, 5, 6:
		n, next, e := num.Uint(b, place)
		if e != api.OK {
			return taken{next: place, e: api.ErrWireByte}
		}
		if above(*weight, map[byte]int{4: 1, 5: 1, 6: 2}[b[tag]], n) {
			return taken{next: tag, e: api.ErrWireSize}
		}
		if b[tag] == 4 {
			if len(b)-next < int(n) {
				return taken{next: place, e: api.ErrWireByte}
			}
			*weight += int(n)
			return taken{v: text(string(b[next : next+int(n)])), next: next + int(n)}
		}
		return toldElements(b, b[tag] == 6, next, int(n), within, weight)
	}
	return taken{next: place}
}

func toldElements(b []byte, keyed bool, at, count, within int, weight *int) taken {
	v := list()
	if keyed {
		v = record("")
	}
	for i := range count {
		if keyed {
			n, next, e := num.Uint(b, at)
			if e != api.OK || n > 32 || len(b)-next < int(n) {
				return taken{next: at, e: api.ErrWireByte}
			}
			key := string(b[next : next+int(n)])
			if i > 0 && strings.Compare(v.K[i-1], key) != -1 {
				return taken{next: at, e: api.ErrWireByte}
			}
			if *weight += 1 + int(n); *weight > 2048 {
				return taken{next: at, e: api.ErrWireSize}
			}
			v.K = append(v.K, key)
			at = next + int(n)
		}
		x := toldValue(b, at, within+1, weight)
		if x.e != api.OK {
			return x
		}
		v.L = append(v.L, x.v)
		at = x.next
	}
	return taken{v: v, next: at}
}

// holds says what of an answer is not as it is to be.
func holds(t *testing.T, call string, b []byte, v api.Value, next int, e api.Errno, want taken) {
	t.Helper()
	if next != want.next || e != want.e || !same(v, want.v) || e != api.OK && !zero(v) {
		t.Fatalf("%s of %.80x: %s, %d, %v, want %s, %d, %v", call, b, brief(v), next, e, brief(want.v), want.next, want.e)
	}
}

// asTold holds Take at every place of some bytes, and outside of them, against what the chapter tells; and Decode.
func asTold(t *testing.T, b []byte) {
	t.Helper()
	for at := -2; at <= len(b)+2; at++ {
		v, next, e := wire.Take(b, at)
		holds(t, fmt.Sprintf("Take at %d", at), b, v, next, e, told(b, at))
	}
	decodeAsTold(t, b)
}

func decodeAsTold(t *testing.T, b []byte) {
	t.Helper()
	want := told(b, 0)
	if want.e == api.OK && want.next < len(b) {
		want = taken{next: want.next, e: api.ErrWireRest}
	}
	if want.e == api.OK {
		want.next = 0
	}
	v, next, e := wire.Decode(b)
	holds(t, "Decode", b, v, next, e, want)
}

// rows calls f with all rows of 0 to 4 bytes that are made of some bytes.
func rows(f func(b []byte)) {
	set := row("00 01 02 03 04 05 06 07 20 21 61 7f 80 81 ff")
	var longer func(b []byte)
	longer = func(b []byte) {
		f(b)
		if len(b) == 4 {
			return
		}
		for _, c := range set {
			longer(append(bytes.Clone(b), c))
		}
	}
	longer(nil)
}

func TestP41Bytes(t *testing.T) {
	for _, x := range pairs {
		for _, ahead := range []string{"", "00", "05 02 00", many("ff", 300)} {
			want := append(row(ahead), row(x.b)...)
			if got, e := wire.Put(row(ahead), x.v); e != api.OK || !bytes.Equal(got, want) {
				t.Errorf("Put(%.20s, %s) = %.80x, %v, want %.80x", ahead, brief(x.v), got, e, want)
			}
		}
		if got, e := wire.Put(nil, x.v); e != api.OK || !bytes.Equal(got, row(x.b)) {
			t.Errorf("Put(none, %s) = %.80x, %v, want %.80s", brief(x.v), got, e, x.b)
		}
	}
}

func TestP41AgainstTheTable(t *testing.T) {
	for _, v := range slices.Concat(randomRights(1, 3000, 4), randomRights(2, 100, 7), []api.Value{wide(255), wide(127), wide(128)}) {
		if got, e := wire.Put([]byte{9}, v); e != api.OK || !bytes.Equal(got, append([]byte{9}, wanted(v)...)) {
			t.Fatalf("Put(09, %s) = %.80x, %v, want %.80x", brief(v), got, e, wanted(v))
		}
	}
}

func TestP41NotRight(t *testing.T) {
	for i, v := range wrongs {
		for _, ahead := range []string{"", "07", many("00", 50)} {
			if got, e := wire.Put(row(ahead), v); e != api.ErrWireForm || len(got) != 0 {
				t.Errorf("Put(%.20s, wrong %d) = %.40x, %v, want ErrWireForm", ahead, i, got, e)
			}
		}
	}
}

// A list of no elements may be nil or not, also where a kind uses none.
func TestP41NoElements(t *testing.T) {
	for kind, want := range []string{"00", "01", "03 00", "04 00", "05 00", "06 00"} {
		for _, l := range [][]api.Value{nil, {}, units(3).L[:0]} {
			for _, k := range [][]string{nil, {}, []string{"b", "a"}[:0]} {
				v := api.Value{Kind: kind, L: l, K: k}
				for _, ahead := range [][]byte{nil, {}, row("07 07")[:0]} {
					if got, e := wire.Put(ahead, v); e != api.OK || !bytes.Equal(got, row(want)) {
						t.Errorf("Put(none, kind %d of no elements) = %x, %v", kind, got, e)
					}
				}
				if wire.Length(v) != len(row(want)) {
					t.Errorf("Length of kind %d of no elements = %d", kind, wire.Length(v))
				}
			}
		}
	}
}

func TestP42Values(t *testing.T) {
	for _, x := range pairs {
		for _, ahead := range []string{"", "07", "05 01", many("06 01", 200)} {
			for _, behind := range []string{"", "00", "07", many("80", 20)} {
				b := row(ahead + x.b + behind)
				at := len(row(ahead))
				v, next, e := wire.Take(b, at)
				holds(t, fmt.Sprintf("Take at %d", at), b, v, next, e, taken{v: x.v, next: at + len(row(x.b))})
			}
		}
	}
}

func TestP42Places(t *testing.T) {
	for _, b := range [][]byte{nil, {}, row("00"), row("00 00"), row("05 01 00"), row("00 00 00")[:1]} {
		for _, at := range []int{-1, -2, math.MinInt, math.MinInt + 1, len(b) + 1, len(b) + 2, math.MaxInt, math.MaxInt - 1} {
			v, next, e := wire.Take(b, at)
			holds(t, fmt.Sprintf("Take at %d", at), b, v, next, e, taken{e: api.ErrWireByte})
		}
		v, next, e := wire.Take(b, len(b))
		holds(t, "Take at the end", b, v, next, e, taken{next: len(b), e: api.ErrWireByte})
	}
	v, next, e := wire.Take(row("07 03 02 00"), 1)
	holds(t, "Take at 1", row("07 03 02 00"), v, next, e, taken{v: number(1), next: 3})
}

// refused are bytes, the place of their fault, and which it is.
type refused struct {
	b  string
	at int
	e  api.Errno
}

// faults asks each of them of Take and of Decode, and of Take behind other bytes.
func faults(t *testing.T, l []refused) {
	t.Helper()
	for _, x := range l {
		b := row(x.b)
		v, next, e := wire.Take(b, 0)
		holds(t, "Take at 0", b, v, next, e, taken{next: x.at, e: x.e})
		v, next, e = wire.Decode(b)
		holds(t, "Decode", b, v, next, e, taken{next: x.at, e: x.e})
		b = append(row("05 02 ff 06"), b...)
		v, next, e = wire.Take(b, 4)
		holds(t, "Take at 4", b, v, next, e, taken{next: x.at + 4, e: x.e})
	}
}

func TestP42Tags(t *testing.T) {
	for c := range 256 {
		head := fmt.Sprintf("%02x", c)
		if c <= 6 {
			if v, _, e := wire.Take(row(head+" 00"), 0); e != api.OK || v.Kind != []int{0, 1, 1, 2, 3, 4, 5}[c] {
				t.Errorf("Take of %s 00 = %v, %v", head, v, e)
			}
			continue
		}
		faults(t, []refused{
			{head, 0, api.ErrWireByte},
			{head + "00 00", 0, api.ErrWireByte},
			{"05 02 00" + head, 3, api.ErrWireByte},
			{"06 01 00" + head, 3, api.ErrWireByte},
		})
	}
	faults(t, []refused{
		{"", 0, api.ErrWireByte},
		{"05 01", 2, api.ErrWireByte},
		{"05 02 00", 3, api.ErrWireByte},
		{"05 02 05 01 00", 5, api.ErrWireByte},
		{"06 01 00", 3, api.ErrWireByte},
		{"06 01 01 6b", 4, api.ErrWireByte},
	})
}

func TestP42Numbers(t *testing.T) {
	for _, bad := range []string{"", "80", "80 00", "ff 80 00", "ff 80", many("ff", 9), many("ff", 9) + "02", many("ff", 10), many("80", 9) + "00"} {
		faults(t, []refused{
			{"03" + bad, 1, api.ErrWireByte},
			{"04" + bad, 1, api.ErrWireByte},
			{"05" + bad, 1, api.ErrWireByte},
			{"06" + bad, 1, api.ErrWireByte},
			{"06 01" + bad, 2, api.ErrWireByte},
			{"06 02 00 00" + bad, 4, api.ErrWireByte},
			{"05 03 00 02 03" + bad, 5, api.ErrWireByte},
			{"06 01 01 6b 04" + bad, 5, api.ErrWireByte},
			{"05 01 05" + bad, 3, api.ErrWireByte},
			{"05 01 06" + bad, 3, api.ErrWireByte},
		})
	}
}

// Lengths that the bytes do not reach: by one byte, and by all of them.
func TestP42Ends(t *testing.T) {
	faults(t, []refused{
		{"04 01", 1, api.ErrWireByte},
		{"04 02 68", 1, api.ErrWireByte},
		{"04 ff 0f", 1, api.ErrWireByte},
		{"04 ff 0f" + many("78", 2046), 1, api.ErrWireByte},
		{"04 80 01" + many("78", 127), 1, api.ErrWireByte},
		{"05 02 00 04 02 68", 4, api.ErrWireByte},
		{"06 01 01", 2, api.ErrWireByte},
		{"06 01 02 6b", 2, api.ErrWireByte},
		{"06 01 20" + many("6b", 31), 2, api.ErrWireByte},
		{"06 02 00 00 02 6b", 4, api.ErrWireByte},
	})
}

// Of each length up to that a key may have, and beyond it; with all its bytes there.
func TestP42KeyLengths(t *testing.T) {
	for n := range 200 {
		b := "06 01 " + digits(uint64(n)) + many("6b", n) + "00"
		if n > 32 {
			faults(t, []refused{{b, 2, api.ErrWireByte}, {"06 02 00 00" + b[len("06 01 "):], 4, api.ErrWireByte}})
			continue
		}
		v, next, e := wire.Take(row(b), 0)
		holds(t, "Take at 0", row(b), v, next, e, taken{v: under(strings.Repeat("k", n), unit), next: len(row(b))})
	}
}

func TestP42KeyOrder(t *testing.T) {
	keys := []string{"", "\x00", "\x00\x00", "A", "a", "a\x00", "aa", "ab", "b", "\x7f", "\x80", "\xc3\xa9", "\xff", "\xff\xff", longKey}
	for _, a := range keys {
		for _, b := range keys {
			head := append(num.PutText(row("06 02"), a), 0)
			all := append(num.PutText(head, b), 0)
			want := taken{next: len(head), e: api.ErrWireByte}
			if a < b {
				want = taken{v: api.Value{Kind: api.Record, K: []string{a, b}, L: units(2).L}, next: len(all)}
			}
			v, next, e := wire.Take(all, 0)
			holds(t, "Take at 0", all, v, next, e, want)
		}
	}
	faults(t, []refused{
		{"06 02 01 6b 00 01 6b 00", 5, api.ErrWireByte},
		{"06 02 01 6b 00 01 6a 00", 5, api.ErrWireByte},
		{"06 02 00 00 00 00", 4, api.ErrWireByte},
		{"06 02 01 6b 00 00 00", 5, api.ErrWireByte},
		{"06 03 01 61 00 01 63 00 01 62 00", 8, api.ErrWireByte},
		{"06 03 01 61 00 01 62 00 01 61 00", 8, api.ErrWireByte},
	})
	// Only with the one ahead of it in the same record a key is compared, not with those of records around or within.
	v, next, e := wire.Take(row("06 02 01 6d 06 01 01 61 00 01 6e 06 01 01 61 00"), 0)
	holds(t, "Take at 0", nil, v, next, e, taken{v: record("m n", under("a", unit), under("a", unit)), next: 16})
}

func TestP42Depth(t *testing.T) {
	for _, outer := range []string{"05 01", "06 01 00"} {
		width := len(row(outer))
		for _, inner := range []string{"00", "01", "02", "03 00", "04 00", "05 00", "06 00"} {
			for count := range 8 {
				b := row(many(outer, count) + inner)
				if v, next, e := wire.Decode(b); e != api.OK || next != 0 || value.Depth(v) != count+1 {
					t.Errorf("Decode(%x): depth %d, place %d, %v", b, value.Depth(v), next, e)
				}
			}
			for _, count := range []int{8, 9, 10, 500} {
				faults(t, []refused{{many(outer, count) + inner, 8 * width, api.ErrWireSize}})
			}
		}
	}
	faults(t, []refused{
		{"05 02 00" + many("05 01", 6) + "05 02 00 07", 17, api.ErrWireSize},
		{"05 03" + many("05 01", 6) + "00" + many("05 01", 7) + "00", 29, api.ErrWireSize},
		{many("06 01 01 6b 05 01", 4) + "00", 24, api.ErrWireSize},
	})
	// A second one beside a deep one is no deeper.
	b := row("05 03" + many("05 01", 6) + "00" + many("05 01", 6) + "00 00")
	if v, _, e := wire.Decode(b); e != api.OK || value.Depth(v) != 8 || len(v.L) != 3 {
		t.Errorf("Decode(%x) = %v, %v", b, v, e)
	}
}

// Just as heavy as may be.
func TestP42HeaviestRead(t *testing.T) {
	for i, b := range []string{
		"04 ff 0f" + many("78", 2047),
		"05 01 04 fe 0f" + many("78", 2046),
		"05 02 04 fd 0f" + many("78", 2045) + "00",
		"05 02 00 04 fd 0f" + many("78", 2045),
		"05 02 04 80 08" + many("78", 1024) + "04 fd 07" + many("78", 1021),
		"05 ff 0f" + many("00", 2047),
		"05 ff 0f" + many("00", 2046) + "05 00",
		"05 ff 0f" + many("00", 2046) + "06 00",
		"05 ff 0f" + many("00", 2046) + "04 00",
		"05 ff 0f" + many("03 02", 2047),
		"05 fe 0f" + many("00", 2045) + "05 01 00",
		"05 fd 0f" + many("00", 2044) + "06 01 00 00",
		"05 02 04 fb 0f" + many("78", 2043) + "06 01 00 00",
		"06 01 01 61 04 fc 0f" + many("78", 2044),
		"06 02 01 61 04 f9 0f" + many("78", 2041) + "01 62 00",
		"06 02 00 04 fa 0f" + many("78", 2042) + "01 62 00",
		many("05 01", 7) + "04 f8 0f" + many("78", 2040),
	} {
		v, next, e := wire.Decode(row(b))
		if e != api.OK || next != 0 || value.Weight(v) != 2048 {
			t.Errorf("row %d: weight %d, place %d, %v", i, value.Weight(v), next, e)
		}
	}
}

// One heavier than may be, by each thing that has a weight.
func TestP42TooHeavy(t *testing.T) {
	faults(t, []refused{
		// By bytes: at their tag.
		{"04 80 10" + many("78", 2048), 0, api.ErrWireSize},
		{"04 80 10", 0, api.ErrWireSize},
		{"04 ff ff 0f", 0, api.ErrWireSize},
		{"05 01 04 ff 0f" + many("78", 2047), 2, api.ErrWireSize},
		{"05 02 00 04 fe 0f" + many("78", 2046), 3, api.ErrWireSize},
		{"06 01 00 04 fe 0f" + many("78", 2046), 3, api.ErrWireSize},
		{"06 01 01 61 04 fd 0f" + many("78", 2045), 4, api.ErrWireSize},
		{"05 02 04 80 08" + many("78", 1024) + "04 fe 07" + many("78", 1022), 1029, api.ErrWireSize},
		// By how many elements there are to be: at the array's tag, ahead of any element.
		{"05 80 10" + many("00", 2048), 0, api.ErrWireSize},
		{"05 80 10", 0, api.ErrWireSize},
		{"05 01 05 ff 0f" + many("00", 2047), 2, api.ErrWireSize},
		{"05 02 00 05 fe 0f" + many("00", 2046), 3, api.ErrWireSize},
		{"05 ff 0f" + many("00", 2046) + "05 01 00", 2049, api.ErrWireSize},
		{"06 01 01 61 05 fd 0f" + many("00", 2045), 4, api.ErrWireSize},
		// By an element: at its tag.
		{"05 02 04 fe 0f" + many("78", 2046) + "00", 2051, api.ErrWireSize},
		{"05 03 04 fd 0f" + many("78", 2045) + "02 03 02", 2051, api.ErrWireSize},
		{"05 fe 0f" + many("00", 2045) + "05 02 00 00", 2048, api.ErrWireSize},
		{"05 ff 0f 05 01 00" + many("00", 2046), 2051, api.ErrWireSize},
		// By how many keys there are to be, each of them with at least a weight of two: at the record's tag.
		{"06 80 08", 0, api.ErrWireSize},
		{"06 80 10", 0, api.ErrWireSize},
		{"05 02 00 06 ff 07", 3, api.ErrWireSize},
		{"05 ff 0f" + many("00", 2046) + "06 01 00 00", 2049, api.ErrWireSize},
		{"05 fe 0f" + many("00", 2045) + "06 01 00 00", 2048, api.ErrWireSize},
		// By a key: at the place of its length.
		{"06 02 00 04 fb 0f" + many("78", 2043) + "02 62 62 00", 2049, api.ErrWireSize},
		{"06 02 01 61 04 fb 0f" + many("78", 2043) + "01 62 00", 2050, api.ErrWireSize},
		{"05 02 04 fb 0f" + many("78", 2043) + "06 01 02 62 62 00", 2050, api.ErrWireSize},
		// By what stands behind a key that is just light enough: at its tag.
		{"06 02 01 61 04 fa 0f" + many("78", 2042) + "01 62 00", 2051, api.ErrWireSize},
		{"05 02 04 fb 0f" + many("78", 2043) + "06 01 01 62 00", 2052, api.ErrWireSize},
	})
	// As many as may be by their number alone: then the fault is where the bytes end.
	faults(t, []refused{
		{"05 ff 0f", 3, api.ErrWireByte},
		{"05 01 05 fe 0f", 5, api.ErrWireByte},
		{"06 ff 07", 3, api.ErrWireByte},
		{"05 01 06 ff 07", 5, api.ErrWireByte},
		{"05 02 00 06 fe 07", 6, api.ErrWireByte},
		{"06 01 00 04 fd 0f", 4, api.ErrWireByte},
	})
	wides := wanted(wide(256))
	v, next, e := wire.Decode(wides)
	holds(t, "Decode", wides, v, next, e, told(wides, 0))
	if e != api.ErrWireSize || next != len(wides)-1 {
		t.Errorf("Decode of 256 keys: %d, %v", next, e)
	}
}

// Numbers with which a sum or a product goes round 64, 63 or 32 bits.
func TestP42GreatNumbers(t *testing.T) {
	for _, n := range []uint64{2049, 1 << 12, 1<<15 - 1, 1<<31 - 1, 1 << 31, 1<<32 - 1, 1 << 32, 1<<32 + 1, 1<<62 - 1, 1 << 62, 1<<63 - 2048, 1<<63 - 2, 1<<63 - 1, 1 << 63, 1<<63 + 1, 1<<63 + 500, math.MaxUint64 - 2048, math.MaxUint64 - 2, math.MaxUint64 - 1, math.MaxUint64} {
		d := digits(n)
		faults(t, []refused{
			{"04" + d + "00", 0, api.ErrWireSize},
			{"05" + d + "00", 0, api.ErrWireSize},
			{"06" + d + "00 00", 0, api.ErrWireSize},
			{"06 01" + d + many("6b", 40), 2, api.ErrWireByte},
			{"06 02 00 00" + d + many("6b", 40), 4, api.ErrWireByte},
			{"05 02 00 04" + d, 3, api.ErrWireSize},
			{"05 02 00 05" + d, 3, api.ErrWireSize},
			{"05 02 00 06" + d, 3, api.ErrWireSize},
			{"06 01 01 6b 06" + d + "00 00", 4, api.ErrWireSize},
		})
	}
}

// full is an array of which all weight is used up, in so many bytes, and of which an element is still to come.
const fullBytes = 2051

func full() string { return "05 02 04 fe 0f" + many("78", 2046) }

// Where two faults could be told, it is the one that stands first in the order of P4.2.
func TestP42FirstFault(t *testing.T) {
	deep := many("05 01", 8)
	pairFull := "06 02 01 62 04 fb 0f" + many("78", 2043) // its next key makes it too heavy
	faults(t, []refused{
		// The tag ahead of the depth, and ahead of the weight.
		{deep, 16, api.ErrWireByte},
		{deep + "07", 16, api.ErrWireByte},
		{deep + "ff", 16, api.ErrWireByte},
		{full(), fullBytes, api.ErrWireByte},
		{full() + "07", fullBytes, api.ErrWireByte},
		// The depth, and the weight, ahead of what follows the tag.
		{deep + "03", 16, api.ErrWireSize},
		{deep + "04 80 00", 16, api.ErrWireSize},
		{deep + "05 80 00", 16, api.ErrWireSize},
		{deep + "06 80", 16, api.ErrWireSize},
		{full() + "03", fullBytes, api.ErrWireSize},
		{full() + "03 80 00", fullBytes, api.ErrWireSize},
		{full() + "04", fullBytes, api.ErrWireSize},
		{full() + "05", fullBytes, api.ErrWireSize},
		{full() + "06 80", fullBytes, api.ErrWireSize},
		// A length that is too great ahead of bytes that end.
		{"04 80 10 78", 0, api.ErrWireSize},
		{"05 01 04 ff 0f 78", 2, api.ErrWireSize},
		{"05 02 00 04 fe 0f", 3, api.ErrWireSize},
		// How many there are ahead of the first of them.
		{"05 80 10 07", 0, api.ErrWireSize},
		{"06 80 08 21", 0, api.ErrWireSize},
		{"06 80 08 80 00", 0, api.ErrWireSize},
		// What is wrong with a key ahead of its weight.
		{pairFull, 2050, api.ErrWireByte},
		{pairFull + "80 00", 2050, api.ErrWireByte},
		{pairFull + "21" + many("7a", 33) + "00", 2050, api.ErrWireByte},
		{pairFull + "02 63", 2050, api.ErrWireByte},
		{pairFull + "01 62 00", 2050, api.ErrWireByte},
		{pairFull + "01 61 00", 2050, api.ErrWireByte},
		// A key ahead of its value, the weight of a key too.
		{pairFull + "01 63 07", 2050, api.ErrWireSize},
		{pairFull + "01 63", 2050, api.ErrWireSize},
		{"06 01 21 07", 2, api.ErrWireByte},
		{"06 02 01 6b 00 01 6b 07", 5, api.ErrWireByte},
		{"06 02 01 6b 07 01 6b 00", 4, api.ErrWireByte},
		// Element by element, whatever is wrong further behind.
		{"05 02 07 03 80 00", 2, api.ErrWireByte},
		{"05 02 03 80 00 07", 3, api.ErrWireByte},
		{"05 02 04 ff 0f 07", 2, api.ErrWireSize},
		{"05 02 04 05 07", 3, api.ErrWireByte},
		{"05 02 05 01 07 07", 4, api.ErrWireByte},
		{"05 02" + many("05 01", 7) + "00 07", 16, api.ErrWireSize},
	})
}

func TestP42ManyRows(t *testing.T) {
	seen := map[api.Errno]int{}
	rows(func(b []byte) {
		asTold(t, b)
		_, _, e := wire.Decode(b)
		seen[e]++
	})
	for _, e := range []api.Errno{api.OK, api.ErrWireByte, api.ErrWireSize, api.ErrWireRest} {
		if seen[e] < 20 {
			t.Errorf("of the rows %d answered %v: the test asks too little", seen[e], e)
		}
	}
}

// spoilt is bytes with some of them changed, left out or put in.
func spoilt(dice *rand.Rand, b []byte) []byte {
	out := bytes.Clone(b)
	for range 1 + dice.Intn(3) {
		at := dice.Intn(len(out) + 1)
		c := byte(dice.Intn(8))
		if dice.Intn(3) == 0 {
			c = byte(dice.Intn(256))
		}
		switch {
		case at == len(out):
			out = append(out, c)
		case dice.Intn(4) == 0:
			out = slices.Delete(out, at, at+1)
		case dice.Intn(3) == 0:
			out = slices.Insert(out, at, c)
		case dice.Intn(6) == 0:
			out = out[:at]
		default:
			out[at] = c
		}
	}
	return out
}

func TestP42SpoiltBytes(t *testing.T) {
	dice := rand.New(rand.NewSource(4))
	for _, v := range slices.Concat(randomRights(5, 3000, 4), randomRights(6, 30, 7)) {
		b := wanted(v)
		asTold(t, b)
		for range 5 {
			asTold(t, spoilt(dice, b))
		}
	}
}

// The same near the greatest weight: one part of the value is filled up with bytes to about as much as may be.
func TestP42SpoiltHeavyBytes(t *testing.T) {
	dice := rand.New(rand.NewSource(7))
	seen := map[api.Errno]int{}
	for _, v := range randomRights(8, 1500, 4) {
		room := max(0, 2048-value.Weight(v)-3)
		fill := text(strings.Repeat("f", max(0, room+dice.Intn(7)-3)))
		at := dice.Intn(2)
		l := []api.Value{v, v}
		l[at] = fill
		for _, b := range [][]byte{wanted(list(l...)), wanted(record("k kk", l...))} {
			decodeAsTold(t, b)
			_, _, e := wire.Decode(b)
			seen[e]++
			decodeAsTold(t, spoilt(dice, b))
		}
	}
	if seen[api.OK] < 300 || seen[api.ErrWireSize] < 300 {
		t.Errorf("%d were read, %d too heavy: the test asks too little", seen[api.OK], seen[api.ErrWireSize])
	}
}

func TestP43Encode(t *testing.T) {
	for _, x := range pairs {
		if got, e := wire.Encode(x.v); e != api.OK || !bytes.Equal(got, row(x.b)) {
			t.Errorf("Encode(%s) = %.80x, %v, want %.80s", brief(x.v), got, e, x.b)
		}
	}
	for i, v := range wrongs {
		if got, e := wire.Encode(v); e != api.ErrWireForm || len(got) != 0 {
			t.Errorf("Encode of wrong %d = %.40x, %v, want ErrWireForm", i, got, e)
		}
	}
}

func TestP43Decode(t *testing.T) {
	for _, x := range pairs {
		v, next, e := wire.Decode(row(x.b))
		holds(t, "Decode", row(x.b), v, next, e, taken{v: x.v})
	}
	for _, b := range [][]byte{nil, {}, row("00")[:0]} {
		v, next, e := wire.Decode(b)
		holds(t, "Decode", b, v, next, e, taken{e: api.ErrWireByte})
	}
}

// Behind a value nothing may stand, not even what is no value's; what is wrong with the value itself is told first.
func TestP43Rest(t *testing.T) {
	for _, x := range pairs {
		for _, behind := range []string{"00", "07", "80", x.b, many("ff", 30)} {
			b := row(x.b + behind)
			v, next, e := wire.Decode(b)
			holds(t, "Decode", b, v, next, e, taken{next: len(row(x.b)), e: api.ErrWireRest})
		}
	}
	faults := []refused{{"03 80 00", 1, api.ErrWireByte}, {"07 00", 0, api.ErrWireByte}, {"05 80 10 00 00", 0, api.ErrWireSize}, {"05 01 07 00", 2, api.ErrWireByte}}
	for _, x := range faults {
		v, next, e := wire.Decode(row(x.b))
		holds(t, "Decode", row(x.b), v, next, e, taken{next: x.at, e: x.e})
	}
}

// The rows of the chapter's second table that stand in no table above.
func TestExamples(t *testing.T) {
	faults := []refused{
		{"03 02 00", 2, api.ErrWireRest},
		{"", 0, api.ErrWireByte},
		{"07", 0, api.ErrWireByte},
		{"03", 1, api.ErrWireByte},
		{"03 80 00", 1, api.ErrWireByte},
		{"04 ff 0f", 1, api.ErrWireByte},
		{"04 ff ff 0f", 0, api.ErrWireSize},
		{many("05 01", 8) + "05 00", 16, api.ErrWireSize},
		{"06 02 01 6b 00 01 6b 00", 5, api.ErrWireByte},
		{"06 01 21" + many("61", 33) + "00", 2, api.ErrWireByte},
		{"06 01 21", 2, api.ErrWireByte},
	}
	for _, x := range faults {
		v, next, e := wire.Decode(row(x.b))
		holds(t, "Decode", row(x.b), v, next, e, taken{next: x.at, e: x.e})
	}
	v, next, e := wire.Decode(row("05 01 05 01 05 01 05 01 05 01 05 01 05 01 05 00"))
	holds(t, "Decode", nil, v, next, e, taken{v: arrays(7, list())})
	for at, want := range map[int]int{2: 0, -1: 0, 1: 1} {
		v, next, e := wire.Take(row("00"), at)
		holds(t, fmt.Sprintf("Take at %d", at), row("00"), v, next, e, taken{next: want, e: api.ErrWireByte})
	}
	if a, b := wire.Length(list(unit, number(1))), wire.Length(truth(7)); a != 5 || b != 0 {
		t.Errorf("Length = %d, %d, want 5, 0", a, b)
	}
}

func TestP44Length(t *testing.T) {
	for _, x := range pairs {
		if got := wire.Length(x.v); got != len(row(x.b)) {
			t.Errorf("Length(%s) = %d, want %d", brief(x.v), got, len(row(x.b)))
		}
	}
	for _, v := range append(randomRights(9, 1000, 4), wide(255)) {
		if got := wire.Length(v); got != len(wanted(v)) {
			t.Errorf("Length(%s) = %d, want %d", brief(v), got, len(wanted(v)))
		}
	}
	for i, v := range wrongs {
		if got := wire.Length(v); got != 0 {
			t.Errorf("Length of wrong %d = %d, want 0", i, got)
		}
	}
}

// Every right value comes back from its bytes.
func TestFollowsValuesComeBack(t *testing.T) {
	values := slices.Concat(randomRights(10, 3000, 4), randomRights(11, 100, 7), []api.Value{wide(255), wide(128)})
	for _, x := range pairs {
		values = append(values, x.v)
	}
	for _, v := range values {
		b, e := wire.Encode(v)
		back, next, f := wire.Decode(b)
		if e != api.OK || f != api.OK || next != 0 || !same(back, v) || value.Compare(back, v) != 0 {
			t.Fatalf("Decode(Encode(%s)) = %s, %d, %v, %v", brief(v), brief(back), next, e, f)
		}
	}
}

// Every row of bytes that is read is written as it was, and what is read is right.
func TestFollowsBytesComeBack(t *testing.T) {
	read := 0
	ask := func(b []byte) {
		for at := range len(b) + 1 {
			v, next, e := wire.Take(b, at)
			if e != api.OK {
				continue
			}
			read++
			back, f := wire.Encode(v)
			if f != api.OK || !value.Right(v) || !bytes.Equal(back, b[at:next]) {
				t.Fatalf("Take(%.80x, %d) = %s, %d, which is written as %.80x, %v", b, at, brief(v), next, back, f)
			}
		}
		if v, _, e := wire.Decode(b); e == api.OK {
			if back, f := wire.Encode(v); f != api.OK || !bytes.Equal(back, b) {
				t.Fatalf("Encode(Decode(%.80x)) = %.80x, %v", b, back, f)
			}
		}
	}
	rows(ask)
	dice := rand.New(rand.NewSource(12))
	for _, v := range randomRights(13, 3000, 4) {
		ask(spoilt(dice, wanted(v)))
	}
	if read < 50000 {
		t.Errorf("%d were read: the test asks too little", read)
	}
}

// No value's bytes are the beginning of another one's, and so no two values have the same ones.
func TestFollowsNoBeginning(t *testing.T) {
	values := randomRights(14, 1500, 3)
	for _, x := range pairs {
		values = append(values, x.v)
	}
	var all [][]byte
	for _, v := range values {
		b, _ := wire.Encode(v)
		all = append(all, b)
	}
	for i, a := range all {
		for j, b := range all {
			if bytes.HasPrefix(b, a) != same(values[i], values[j]) {
				t.Fatalf("%s is %.80x, %s is %.80x", brief(values[i]), a, brief(values[j]), b)
			}
		}
	}
	rows(func(b []byte) {
		if _, _, e := wire.Decode(b); e != api.OK {
			return
		}
		for n := range len(b) {
			if _, _, e := wire.Decode(b[:n]); e == api.OK {
				t.Fatalf("%x is read, and so is its beginning %x", b, b[:n])
			}
		}
	})
}

// What stands ahead of the place, or lies in spare room, makes no difference but that places are counted from the beginning.
func TestFollowsFromThePlaceOn(t *testing.T) {
	dice := rand.New(rand.NewSource(15))
	for _, v := range randomRights(16, 1500, 4) {
		b := wanted(v)
		if dice.Intn(2) == 0 {
			b = spoilt(dice, b)
		}
		want := told(b, 0)
		for _, ahead := range [][]byte{row("07"), row("05 02 00"), row(many("05 01", 8)), row(full()), bytes.Repeat(b, 3)} {
			moved := taken{want.v, want.next + len(ahead), want.e}
			all := append(slices.Concat(ahead, b), row("00 00 00 00 00 00")...)
			all = all[:len(all)-6]
			got, next, e := wire.Take(all, len(ahead))
			holds(t, fmt.Sprintf("Take at %d", len(ahead)), all, got, next, e, moved)
		}
	}
}

// fill writes a byte over all of b, and over its spare room.
func fill(b []byte, c byte) {
	b = b[:cap(b)]
	for i := range b {
		b[i] = c
	}
}

// lists is the memory of all lists of a value, with their spare room; texts that of its texts and keys.
func lists(v api.Value) []piece {
	out := slices.Concat(listPiece(v.L), listPiece(v.K))
	for _, x := range v.L {
		out = append(out, lists(x)...)
	}
	return out
}

func texts(v api.Value) []piece {
	out := textPiece(v.S)
	for _, key := range v.K {
		out = append(out, textPiece(key)...)
	}
	for _, x := range v.L {
		out = append(out, texts(x)...)
	}
	return out
}

// piece is some memory.
type piece struct{ from, to uintptr }

func listPiece[T any](l []T) []piece {
	if cap(l) == 0 {
		return nil
	}
	from := uintptr(unsafe.Pointer(unsafe.SliceData(l)))
	return []piece{{from, from + uintptr(cap(l))*unsafe.Sizeof(l[:1][0])}}
}

func textPiece(s string) []piece {
	if s == "" {
		return nil
	}
	from := uintptr(unsafe.Pointer(unsafe.StringData(s)))
	return []piece{{from, from + uintptr(len(s))}}
}

// meet: does one of these pieces share memory with one of those?
func meet(these, those []piece) bool {
	for _, a := range these {
		for _, b := range those {
			if a.from < b.to && b.from < a.to {
				return true
			}
		}
	}
	return false
}

// meetWithin: do two of these pieces share memory?
func meetWithin(l []piece) bool {
	for i := range l {
		if meet(l[i:i+1], l[i+1:]) {
			return true
		}
	}
	return false
}

func TestR3PutBehindBytes(t *testing.T) {
	for _, x := range []api.Value{unit, number(math.MinInt64), text(strings.Repeat("t", 300)), list(unit, number(1)), wide(20), truth(7)} {
		for _, length := range []int{0, 1, 3, 64} {
			for _, spare := range []int{0, 1, 10, 400} {
				whole := make([]byte, length+spare)
				fill(whole, 0xa5)
				was := bytes.Clone(whole)
				b := whole[:length]

				first, e := wire.Put(b, x)
				second, _ := wire.Put(b, x)
				if !bytes.Equal(whole, was) {
					t.Fatalf("Put of %d bytes with room for %d: wrote into what it was handed", length, spare)
				}
				if e == api.OK && !bytes.Equal(first[:length], was[:length]) {
					t.Fatalf("Put of %d bytes with room for %d lost them", length, spare)
				}
				if meet(listPiece(first), listPiece(whole)) || meet(listPiece(first), listPiece(second)) {
					t.Errorf("Put of %d bytes with room for %d: the answer shares memory", length, spare)
				}
				keep := bytes.Clone(first)
				fill(second, 0x5a)
				fill(whole, 0x11)
				if !bytes.Equal(first, keep) {
					t.Errorf("Put of %d bytes with room for %d: the answer hangs on others afterwards", length, spare)
				}
			}
		}
	}
}

// fresh makes a value with spare room in its lists.
func fresh(v api.Value) api.Value {
	out := api.Value{Kind: v.Kind, N: v.N, S: strings.Clone(v.S), L: make([]api.Value, 0, len(v.L)+2), K: make([]string, 0, len(v.K)+2)}
	out.K = append(out.K, v.K...)
	for _, x := range v.L {
		out.L = append(out.L, fresh(x))
	}
	for i := range 2 {
		out.L[:cap(out.L)][len(out.L)+i] = number(77)
		out.K[:cap(out.K)][len(out.K)+i] = "spare"
	}
	return out
}

// untouched: is what fresh made of v still so, its spare room too?
func untouched(made, v api.Value) bool {
	if !same(made, v) {
		return false
	}
	for i := range 2 {
		if !same(made.L[:cap(made.L)][len(made.L)+i], number(77)) || made.K[:cap(made.K)][len(made.K)+i] != "spare" {
			return false
		}
	}
	for i, x := range made.L {
		if !untouched(x, v.L[i]) {
			return false
		}
	}
	return true
}

func TestR3ValuesHandedIn(t *testing.T) {
	for _, v := range append(randomRights(17, 300, 4), record("b a", unit, list(text("x"))), list(unit, truth(2))) {
		given := fresh(v)
		wire.Put([]byte{1}, given)
		wire.Length(given)
		b, e := wire.Encode(given)
		keep := bytes.Clone(b)
		if !untouched(given, v) || meet(listPiece(b), texts(given)) {
			t.Fatalf("%s was changed, or is shared", brief(v))
		}
		for i := range given.L {
			given.L[i] = text("other")
		}
		for i := range given.K {
			given.K[i] = "other"
		}
		if again, f := wire.Encode(v); !bytes.Equal(b, keep) || !bytes.Equal(again, keep) || e != f {
			t.Fatalf("the bytes of %s hang on it afterwards", brief(v))
		}
	}
}

func TestR3BytesHandedIn(t *testing.T) {
	dice := rand.New(rand.NewSource(18))
	for _, v := range append(randomRights(19, 500, 4), units(2047), wide(255), text(strings.Repeat("x", 2047))) {
		b := wanted(v)
		if dice.Intn(4) == 0 {
			b = spoilt(dice, b)
		}
		whole := slices.Concat([]byte{9}, b, bytes.Repeat([]byte{0xa5}, 50))
		was := bytes.Clone(whole)
		given := whole[:1+len(b)]
		want := told(given, 1)
		first, _, _ := wire.Take(given, 1)
		second, _, _ := wire.Take(given, 1)
		third, _, _ := wire.Decode(given[1:])
		if !bytes.Equal(whole, was) {
			t.Fatalf("%.80x was changed", was)
		}
		if meet(slices.Concat(lists(first), texts(first), lists(third), texts(third)), listPiece(whole)) || meet(lists(first), slices.Concat(lists(second), lists(third))) || meetWithin(lists(first)) || meetWithin(lists(third)) {
			t.Fatalf("what is read from %.80x shares memory", b)
		}
		fill(whole, 0)
		if !same(first, want.v) || !same(second, want.v) {
			t.Fatalf("what is read from %.80x hangs on it afterwards", b)
		}
	}
}

// What was read, or refused, ahead of a call makes no difference to it.
func TestR4NothingKept(t *testing.T) {
	heavy, deep := row(full()+"00"), row(many("05 01", 9))
	for _, x := range pairs {
		wire.Take(heavy, 0)
		wire.Take(deep, 0)
		v, next, e := wire.Decode(row(x.b))
		holds(t, "Decode", row(x.b), v, next, e, taken{v: x.v})
	}
}

// Rows so long that going through all of them for each part would not end in time.
func TestR1LongRows(t *testing.T) {
	long := append(bytes.Repeat([]byte{5, 1}, 1<<22), 0)
	v, next, e := wire.Decode(long)
	holds(t, "Decode", long[:40], v, next, e, taken{next: 16, e: api.ErrWireSize})
	v, next, e = wire.Take(long, len(long)-1)
	holds(t, "Take at the last place", long[:40], v, next, e, taken{next: len(long)})
	got, e := wire.Put(long, units(2047))
	if e != api.OK || len(got) != len(long)+2050 || !bytes.Equal(got[:len(long)], long) {
		t.Errorf("Put behind %d bytes: %d, %v", len(long), len(got), e)
	}
}
