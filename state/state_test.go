package state_test

import (
	"bytes"
	"crypto/sha256"
	"encoding/binary"
	"encoding/hex"
	"fmt"
	"math"
	"math/rand"
	"reflect"
	"slices"
	"strings"
	"testing"
	"unsafe"

	"scruple/api"
	"scruple/hash"
	"scruple/state"
	"scruple/store"
	"scruple/wire"
)

var unit = api.Value{}

func truth(n int64) api.Value { return api.Value{Kind: api.Bool, N: n} }

func number(n int64) api.Value { return api.Value{Kind: api.Int, N: n} }

func text(s string) api.Value { return api.Value{Kind: api.Bytes, S: s} }

func list(l ...api.Value) api.Value { return api.Value{Kind: api.Array, L: l} }

// record is one of keys, parted by spaces, and their values, laid down as they are told.
func record(keys string, l ...api.Value) api.Value {
	return api.Value{Kind: api.Record, K: strings.Fields(keys), L: l}
}

// arrays is x within so many arrays.
func arrays(count int, x api.Value) api.Value {
	for range count {
		x = list(x)
	}
	return x
}

// units is an array of so many units: its weight is one more.
func units(count int) api.Value { return list(make([]api.Value, count)...) }

// heavy is a value of that weight.
func heavy(weight int) api.Value { return text(strings.Repeat("h", weight-1)) }

// endless is an array that holds itself, so often.
func endless(count int) api.Value {
	v := units(count)
	for i := range v.L {
		v.L[i] = v
	}
	return v
}

// same: have two values the same, nil and empty lists being one?
func same(a, b api.Value) bool {
	return a.Kind == b.Kind && a.N == b.N && a.S == b.S && slices.Equal(a.K, b.K) && slices.EqualFunc(a.L, b.L, same)
}

func sameEntry(a, b api.Entry) bool { return a.Key == b.Key && same(a.Value, b.Value) }

func sameEntries(a, b []api.Entry) bool { return slices.EqualFunc(a, b, sameEntry) }

func sameChange(a, b api.Change) bool {
	return a.Key == b.Key && a.Gone == b.Gone && same(a.Value, b.Value)
}

func sameChanges(a, b []api.Change) bool { return slices.EqualFunc(a, b, sameChange) }

// rights are right values of every kind, the deepest and the heaviest ones among them.
func rights() []api.Value {
	return []api.Value{
		unit, truth(0), truth(1), number(0), number(-1), number(math.MinInt64), number(math.MaxInt64),
		text(""), text("a"), text("\x00\xff"), heavy(2048),
		list(), list(unit), list(number(1), text("ab"), list(truth(1))), units(2047), arrays(7, unit),
		record(""), record("a", number(1)), record("a b", list(), record("c", text("d"))),
		{Kind: api.Record, K: []string{""}, L: []api.Value{unit}},
		{L: []api.Value{}, K: []string{}}, {Kind: api.Array, L: []api.Value{}, K: []string{}},
	}
}

// wrongs are values that are not right, each for one reason.
func wrongs() []api.Value {
	return []api.Value{
		{Kind: -1}, {Kind: 6}, {Kind: math.MaxInt}, {Kind: math.MinInt},
		{N: 1}, {S: "a"}, {L: []api.Value{{}}}, {K: []string{""}},
		truth(2), truth(-1), {Kind: api.Bool, S: "a"}, {Kind: api.Int, S: "a"}, {Kind: api.Bytes, N: 1},
		{Kind: api.Array, N: -1}, {Kind: api.Array, S: "a"}, {Kind: api.Array, K: []string{""}},
		{Kind: api.Record, N: 1}, {Kind: api.Record, S: "a"}, {Kind: api.Record, K: []string{""}},
		record("a", unit, unit), record("a b", unit), record("b a", unit, unit), record("a a", unit, unit), record(strings.Repeat("k", 33), unit),
		list(truth(2)), list(unit, truth(2)), record("a", truth(2)),
		heavy(2049), units(2048), list(heavy(2048)), heavy(100000), arrays(8, unit), arrays(60000, unit),
		endless(1), endless(2), endless(2000),
	}
}

// weigh is what the document's table says that a right value weighs.
func weigh(v api.Value) int {
	w := 1 + len(v.S)
	for _, key := range v.K {
		w += 1 + len(key)
	}
	for _, x := range v.L {
		w += weigh(x)
	}
	return w
}

// longest is a key of 32 bytes, tooLong one of 33.
var longest, tooLong = strings.Repeat("k", 32), strings.Repeat("k", 33)

func at(key string, v api.Value) api.Entry { return api.Entry{Key: key, Value: v} }

func gone(key string) api.Change { return api.Change{Key: key, Gone: true} }

func to(key string, v api.Value) api.Change { return api.Change{Key: key, Value: v} }

// numbered are so many entries of keys of three bytes, each with v.
func numbered(count int, v api.Value) []api.Entry {
	var l []api.Entry
	for i := range count {
		l = append(l, at(fmt.Sprintf("%03d", i), v))
	}
	return l
}

// put is l with x, in its place.
func put(l []api.Entry, x api.Entry) []api.Entry {
	i, found := slices.BinarySearchFunc(l, x, func(a, b api.Entry) int { return strings.Compare(a.Key, b.Key) })
	l = slices.Clone(l)
	if found {
		l[i] = x
		return l
	}
	return slices.Insert(l, i, x)
}

// without is l without a key.
func without(l []api.Entry, key string) []api.Entry {
	return slices.DeleteFunc(slices.Clone(l), func(x api.Entry) bool { return x.Key == key })
}

// heaviest are entries of a weight of just 32768: fifteen of 2052, and one of 1988.
func heaviest() []api.Entry { return append(numbered(15, heavy(2048)), at("x", heavy(1986))) }

// each are entries with keys of every sort, by rising keys.
func each() []api.Entry {
	keys := []string{
		"\x00", "\x00\x00", "A", "a", "a\x00", "aa", "ab", "b", "z", "\x7f", "\x80", "é", "\xff", "\xff\xff",
		strings.Repeat("k", 31), longest, strings.Repeat("k", 31) + "\xff", strings.Repeat("\xff", 32),
	}
	slices.Sort(keys)
	var l []api.Entry
	for i, key := range keys {
		l = append(l, at(key, number(int64(i-9)<<(3*i))))
	}
	return l
}

// kinds are entries with values of every kind.
func kinds() []api.Entry {
	var l []api.Entry
	for i, v := range rights() {
		l = append(l, at(fmt.Sprintf("%03d", i), v))
	}
	return l
}

// goods are right entries, at all limits.
func goods() map[string][]api.Entry {
	return map[string][]api.Entry{
		"nil": nil, "empty": {}, "one": numbered(1, unit), "two": numbered(2, number(7)), "127": numbered(127, number(1)), "128": numbered(128, list()),
		"keys": each(), "kinds": kinds(), "the heaviest": heaviest(), "128 of the heaviest": numbered(128, heavy(252)),
		"the longest key": {at(longest, heavy(2048))},
	}
}

// bads are entries that no store holds, each for one reason.
func bads() map[string][]api.Entry {
	out := map[string][]api.Entry{
		"129": numbered(129, unit), "1000": numbered(1000, unit),
		"one above the heaviest":        append(numbered(15, heavy(2048)), at("x", heavy(1987))),
		"a key above the heaviest":      append(numbered(15, heavy(2048)), at("xx", heavy(1986))),
		"128, one above the heaviest":   put(numbered(128, heavy(252)), at("000", heavy(253))),
		"seventeen heavy ones":          numbered(17, heavy(2048)),
		"the last above the heaviest":   append(heaviest(), at("y", unit)),
		"falling":                       {at("b", unit), at("a", unit)},
		"twice":                         {at("a", unit), at("a", unit)},
		"twice, with other values":      {at("a", unit), at("a", number(1))},
		"a beginning":                   {at("ab", unit), at("a", unit)},
		"later":                         {at("a", unit), at("b", unit), at("b", unit)},
		"behind the first":              {at("a", unit), at("c", unit), at("b", unit), at("d", unit)},
		"above the first alone":         {at("b", unit), at("d", unit), at("c", unit)},
		"bytes":                         {at("\xff", unit), at("\x7f", unit)},
		"no runes":                      {at("\xff", unit), at("é", unit)},
		"a capital":                     {at("a", unit), at("B", unit)},
		"ten":                           {at("9", unit), at("10", unit)},
		"two empty keys":                {at("", unit), at("", unit)},
		"an empty key":                  {at("", unit)},
		"an empty key of more":          {at("", unit), at("a", unit)},
		"a long key":                    {at(tooLong, unit)},
		"a long key at the end":         {at("a", unit), at(tooLong, unit)},
		"a long key at the beginning":   {at(tooLong, unit), at("z", unit)},
		"a very long key":               {at(strings.Repeat("k", 100000), unit)},
		"too long by a key of its own":  {at(strings.Repeat("\xff", 33), unit)},
		"falling at the end of a store": append(numbered(127, unit), at("000", unit)),
	}
	for i, v := range wrongs() {
		for place := range 3 {
			l := numbered(3, unit)
			l[place].Value = v
			out[fmt.Sprintf("wrong value %d at %d", i, place)] = l
		}
	}
	return out
}

// putNumber is a second reading of chapter 1: a number behind bytes.
func putNumber(b []byte, n uint64) []byte { return binary.AppendUvarint(b, n) }

// putValue is a second reading of chapter 4: a right value's bytes behind others.
func putValue(b []byte, v api.Value) []byte {
	switch v.Kind {
	case api.Unit:
		return append(b, 0)
	case api.Bool:
		return append(b, 1+byte(v.N))
	case api.Int:
		return binary.AppendVarint(append(b, 3), v.N)
	case api.Bytes:
		return append(putNumber(append(b, 4), uint64(len(v.S))), v.S...)
	case api.Array:
		b = putNumber(append(b, 5), uint64(len(v.L)))
	case api.Record:
		b = putNumber(append(b, 6), uint64(len(v.L)))
	}
	for i, x := range v.L {
		if v.Kind == api.Record {
			b = append(putNumber(b, uint64(len(v.K[i]))), v.K[i]...)
		}
		b = putValue(b, x)
	}
	return b
}

// laid are the bytes of entries as they are told, whether they are right or not, with that number of them ahead.
func laid(count uint64, l ...api.Entry) []byte {
	b := putNumber([]byte("SST1"), count)
	for _, x := range l {
		b = putValue(append(putNumber(b, uint64(len(x.Key))), x.Key...), x.Value)
	}
	return b
}

func told(l []api.Entry) []byte { return laid(uint64(len(l)), l...) }

func encoded(t *testing.T, l []api.Entry) []byte {
	t.Helper()
	b, e := state.Encode(l)
	if e != api.OK {
		t.Fatalf("Encode of %d entries: %v", len(l), e)
	}
	return b
}

func decoded(t *testing.T, b []byte) []api.Entry {
	t.Helper()
	l, place, e := state.Decode(b)
	if e != api.OK || place != 0 {
		t.Fatalf("Decode of %.60x: %d, %v", b, place, e)
	}
	return l
}

func unhex(t *testing.T, s string) []byte {
	t.Helper()
	b, err := hex.DecodeString(strings.ReplaceAll(s, " ", ""))
	if err != nil {
		t.Fatal(err)
	}
	return b
}

// faulty: is this what Decode answers?
func faulty(t *testing.T, what string, b []byte, place int, want api.Errno) {
	t.Helper()
	if l, p, e := state.Decode(b); len(l) != 0 || p != place || e != want {
		t.Errorf("%s: Decode answers %d entries, %d, %v, not %d, %v", what, len(l), p, e, place, want)
	}
}

func TestExamples(t *testing.T) {
	if b, e := state.Encode(nil); string(b) != "SST1\x00" || e != api.OK {
		t.Errorf("Encode of nothing: %x, %v", b, e)
	}
	two := []api.Entry{at("a", number(1)), at("b", truth(1))}
	if b, e := state.Encode(two); !bytes.Equal(b, unhex(t, "53535431 02 01 61 03 02 01 62 02")) || e != api.OK {
		t.Errorf("Encode of two: %x, %v", b, e)
	}
	for _, x := range []struct {
		b     string
		place int
		want  api.Errno
	}{
		{"", 4, api.ErrStateByte}, {"00 00", 5, api.ErrStateRest}, {"01 00 00", 5, api.ErrStateForm}, {"81 01", 4, api.ErrStateForm},
		{"02 01 62 00 01 61 00", 8, api.ErrStateForm}, {"01 01 61 07", 7, api.ErrStateByte},
	} {
		faulty(t, x.b, append([]byte("SST1"), unhex(t, x.b)...), x.place, x.want)
	}
	faulty(t, "SST2", []byte("SST2\x00"), 0, api.ErrStateByte)
	c, e := state.Diff([]api.Entry{at("a", number(1)), at("b", number(2))}, []api.Entry{at("b", number(3)), at("c", number(4))})
	if e != api.OK || !sameChanges(c, []api.Change{gone("a"), to("b", number(3)), to("c", number(4))}) {
		t.Error("Diff", c, e)
	}
	one := []api.Entry{at("a", number(1))}
	for i, x := range []struct {
		c    api.Change
		l    []api.Entry
		want api.Errno
	}{
		{gone("a"), nil, api.OK}, {to("a", number(1)), nil, api.ErrStateKey}, {gone("b"), nil, api.ErrStateKey},
		{to("b", number(2)), []api.Entry{at("a", number(1)), at("b", number(2))}, api.OK},
	} {
		if l, e := state.Apply(one, []api.Change{x.c}); e != x.want || !sameEntries(l, x.l) {
			t.Errorf("Apply %d: %v, %v", i, l, e)
		}
	}
	if d, e := state.Digest(nil); d != hash.Sum(unhex(t, "53 53 54 31 00")) || e != api.OK {
		t.Errorf("Digest of nothing: %x, %v", d, e)
	}
}

func TestP71Encode(t *testing.T) {
	for what, l := range goods() {
		if b, e := state.Encode(l); !bytes.Equal(b, told(l)) || e != api.OK {
			t.Errorf("%s: Encode is %.60x, %v, not %.60x", what, b, e, told(l))
		}
	}
	if b := encoded(t, numbered(128, unit)); !bytes.HasPrefix(b, []byte("SST1\x80\x01\x03000\x00\x03001")) || len(b) != 6+128*5 {
		t.Errorf("128 entries: %.60x", b)
	}
}

func TestP71Digest(t *testing.T) {
	for what, l := range goods() {
		if d, e := state.Digest(l); d != sha256.Sum256(told(l)) || e != api.OK {
			t.Errorf("%s: Digest is %x, %v", what, d, e)
		}
	}
}

func TestP71Refused(t *testing.T) {
	for what, l := range bads() {
		if b, e := state.Encode(l); len(b) != 0 || e != api.ErrStateForm {
			t.Errorf("%s: Encode answers %d bytes, %v", what, len(b), e)
		}
		if d, e := state.Digest(l); d != [32]byte{} || e != api.ErrStateForm {
			t.Errorf("%s: Digest answers %x, %v", what, d, e)
		}
	}
}

// Entries are right just if a store takes them.
func TestP71JustAStores(t *testing.T) {
	dice := rand.New(rand.NewSource(1))
	right, count := 0, 0
	for count < 20000 {
		var l []api.Entry
		for range dice.Intn(5) {
			l = append(l, at(randomKey(dice), number(1)))
		}
		if dice.Intn(4) > 0 {
			slices.SortFunc(l, func(a, b api.Entry) int { return strings.Compare(a.Key, b.Key) })
		}
		if dice.Intn(10) == 0 && len(l) > 0 {
			l[dice.Intn(len(l))].Value = truth(2)
		}
		count++
		_, want := store.From(l)
		if want == api.OK {
			right++
		}
		if _, e := state.Encode(l); (e == api.OK) != (want == api.OK) || e != api.OK && e != api.ErrStateForm {
			t.Fatalf("%v: Encode answers %v, From %v", l, e, want)
		}
	}
	if right < count/5 || right > count*4/5 {
		t.Errorf("%d of %d are right: the test asks too little", right, count)
	}
}

// randomKey is a key, or now and then one that may not be.
func randomKey(dice *rand.Rand) string {
	switch dice.Intn(20) {
	case 0:
		return ""
	case 1:
		return tooLong
	case 2:
		return longest
	}
	b := make([]byte, 1+dice.Intn(3))
	for i := range b {
		b[i] = "\x00ab\xff"[dice.Intn(4)]
	}
	return string(b)
}

func TestP72Decode(t *testing.T) {
	for what, l := range goods() {
		got, place, e := state.Decode(told(l))
		if place != 0 || e != api.OK || !sameEntries(got, l) {
			t.Errorf("%s: Decode answers %d entries, %d, %v", what, len(got), place, e)
		}
	}
}

func TestP72Head(t *testing.T) {
	whole := told(numbered(2, unit))
	for place := range 4 {
		faulty(t, "short", whole[:place], 0, api.ErrStateByte)
		for c := range 256 {
			b := slices.Clone(whole)
			b[place] = byte(c)
			if byte(c) != whole[place] {
				faulty(t, fmt.Sprintf("%x at %d", c, place), b, 0, api.ErrStateByte)
			}
		}
	}
	for _, s := range []string{"sst1\x00", "SST\x001", "1TSS\x00", "SCM1\x00", " SST1\x00", "SST0", "SS", "\xff"} {
		faulty(t, s, []byte(s), 0, api.ErrStateByte)
	}
	faulty(t, "nil", nil, 0, api.ErrStateByte)
}

func TestP72HowMany(t *testing.T) {
	ones := strings.Repeat("ff", 9)
	for s, want := range map[string]api.Errno{
		"": api.ErrStateByte, "80": api.ErrStateByte, "ff": api.ErrStateByte, "80 00": api.ErrStateByte, "81 00": api.ErrStateByte, "80 80": api.ErrStateByte,
		ones: api.ErrStateByte, ones + "02": api.ErrStateByte, ones + "80": api.ErrStateByte, ones + "ff 01": api.ErrStateByte, "80 81 00": api.ErrStateByte,
		"81 01": api.ErrStateForm, "82 01": api.ErrStateForm, "ff 01": api.ErrStateForm, "80 02": api.ErrStateForm, ones + "01": api.ErrStateForm,
		"80808080808080808001": api.ErrStateForm, "8080808008": api.ErrStateForm, "8080808010": api.ErrStateForm, "80808080808080808000": api.ErrStateByte,
	} {
		faulty(t, s, append([]byte("SST1"), unhex(t, s)...), 4, want)
		if want == api.ErrStateForm || s == "80 00" || s == "81 00" {
			faulty(t, s+", and more", append(append([]byte("SST1"), unhex(t, s)...), told(numbered(128, unit))[6:]...), 4, want)
		}
	}
	for _, n := range []uint64{129, 130, 255, 256, 1 << 14, 1 << 31, 1 << 32, 1<<32 + 1, 1 << 63, 1<<63 + 1, math.MaxUint64} {
		faulty(t, fmt.Sprint(n), laid(n, numbered(129, unit)...), 4, api.ErrStateForm)
	}
	faulty(t, "127 of 128", laid(128, numbered(127, unit)...), 6+127*5, api.ErrStateByte)
	faulty(t, "128 of 127", laid(127, numbered(128, unit)...), 5+127*5, api.ErrStateRest)
}

func TestP72Keys(t *testing.T) {
	two := numbered(2, number(1)) // the second one's key is at 11, its value at 15
	for what, x := range map[string]struct {
		b     []byte
		place int
		want  api.Errno
	}{
		"no key":               {laid(1), 5, api.ErrStateByte},
		"no second key":        {laid(2, two[0]), 11, api.ErrStateByte},
		"a length cut off":     {append(laid(1), 0x80), 5, api.ErrStateByte},
		"a length not its own": {append(laid(1), "\x81\x00a\x00"...), 5, api.ErrStateByte},
		"a key cut off":        {append(laid(1), "\x02a"...), 5, api.ErrStateByte},
		"a key without bytes":  {append(laid(1), 1), 5, api.ErrStateByte},
		"33 bytes":             {laid(1, at(tooLong, unit)), 5, api.ErrStateByte},
		"33 bytes at last":     {laid(3, two[0], two[1], at(tooLong, unit)), 17, api.ErrStateByte},
		"33 bytes, cut off":    {append(laid(1), 33, 'k'), 5, api.ErrStateByte},
		"33 bytes, not behind": {laid(2, at("z", unit), at(tooLong, unit)), 8, api.ErrStateByte},
		"a very long key":      {laid(1, at(strings.Repeat("k", 100000), unit)), 5, api.ErrStateByte},
		"an endless key":       {append(laid(1), "\xff\xff\xff\xff\xff\xff\xff\xff\xff\x01abc"...), 5, api.ErrStateByte},
		"an empty key":         {laid(1, at("", unit)), 5, api.ErrStateForm},
		"an empty second one":  {laid(2, two[0], at("", unit)), 11, api.ErrStateForm},
		"an empty third one":   {laid(3, two[0], two[1], at("", unit)), 17, api.ErrStateForm},
		"an empty key alone":   {append(laid(1), 0), 5, api.ErrStateForm},
		"the same":             {laid(2, two[0], two[0]), 11, api.ErrStateForm},
		"the same, otherwise":  {laid(2, two[0], at("000", unit)), 11, api.ErrStateForm},
		"falling":              {laid(2, two[1], two[0]), 11, api.ErrStateForm},
		"behind the first":     {laid(3, two[0], at("002", number(1)), two[1]), 17, api.ErrStateForm},
		"a beginning":          {laid(2, two[0], at("00", unit)), 11, api.ErrStateForm},
		"signs":                {laid(2, at("\x80", unit), at("\x7f", unit)), 8, api.ErrStateForm},
		"no runes":             {laid(2, at("\xff", unit), at("é", unit)), 8, api.ErrStateForm},
		"the key, not a value": {append(laid(2, two[1]), "\x03000\x07"...), 11, api.ErrStateForm},
		"the key, not the end": {append(laid(2, two[1]), "\x03000"...), 11, api.ErrStateForm},
		"an empty key, and so": {append(laid(1), 0, 7), 5, api.ErrStateForm},
	} {
		faulty(t, what, x.b, x.place, x.want)
	}
	if l := decoded(t, laid(1, at(longest, unit))); len(l) != 1 || l[0].Key != longest {
		t.Error("a key of 32 bytes")
	}
}

// Whatever wire refuses is refused at just its place, its size too.
func TestP72Values(t *testing.T) {
	sizes := 0
	for _, s := range []string{
		"", "07", "ff", "03", "03 80 00", "03 80", "04", "04 01", "04 80 00", "04 ff 0f", "04 ff ff 0f", "05", "05 01", "05 80 00", "05 ff ff 0f", "05 01 07", "05 02 00",
		"06 01", "06 01 01 6b", "06 02 01 6b 00 01 6b 00", "06 01 21", "06 ff 0f", strings.Repeat("05 01", 8) + "00", strings.Repeat("05 01", 7) + "07",
		hex.EncodeToString(putValue(nil, heavy(2049))), hex.EncodeToString(putValue(nil, units(2048))), hex.EncodeToString(putValue(nil, list(heavy(2048)))),
	} {
		v := unhex(t, s)
		_, in, e := wire.Take(v, 0)
		if e == api.OK {
			t.Fatalf("%.40s is a value", s)
		}
		if e == api.ErrWireSize {
			sizes++
		}
		faulty(t, s, append(append(laid(1), 1, 'a'), v...), 7+in, api.ErrStateByte)
		faulty(t, s+", the third one", append(append(laid(3, numbered(2, unit)...), 1, 'a'), v...), 17+in, api.ErrStateByte)
		faulty(t, s+", of an empty key", append(append(laid(1), 0), v...), 5, api.ErrStateForm)
	}
	if sizes < 5 {
		t.Error("the test asks too little")
	}
}

func TestP72Weight(t *testing.T) {
	over := append(numbered(15, heavy(2048)), at("x", heavy(1987)))
	last := len(told(numbered(15, heavy(2048)))) // its key's place
	faulty(t, "one above", told(over), last, api.ErrStateForm)
	faulty(t, "a key above", laid(16, append(numbered(15, heavy(2048)), at("xx", heavy(1986)))...), last, api.ErrStateForm)
	faulty(t, "one above, and bytes behind", append(told(over), 0), last, api.ErrStateForm)
	faulty(t, "one above, and more to come", laid(17, over...), last, api.ErrStateForm)
	faulty(t, "one above, and a wrong key behind", laid(17, append(over, at("", unit))...), last, api.ErrStateForm)
	faulty(t, "one above, its value cut off", told(over)[:len(told(over))-1], last+3, api.ErrStateByte)
	faulty(t, "one above, its value wrong", append(laid(16, numbered(15, heavy(2048))...), 1, 'x', 4, 0x81, 0x10), last+2, api.ErrStateByte)
	faulty(t, "one above, its key wrong", laid(16, append(numbered(15, heavy(2048)), at("000", heavy(1987)))...), last, api.ErrStateForm)
	faulty(t, "a light one above", told(append(heaviest(), at("y", unit))), len(told(heaviest())), api.ErrStateForm)
	many := put(numbered(128, heavy(252)), at("000", heavy(253)))
	faulty(t, "128, the last above", told(many), len(laid(128, many[:127]...)), api.ErrStateForm)
	if l := decoded(t, told(heaviest())); !sameEntries(l, heaviest()) {
		t.Error("the heaviest")
	}
	if l := decoded(t, told(numbered(128, heavy(252)))); !sameEntries(l, numbered(128, heavy(252))) {
		t.Error("128 of the heaviest")
	}
}

func TestP72Rest(t *testing.T) {
	for what, l := range goods() {
		b := told(l)
		for _, more := range []string{"\x00", "\xff", "SST1\x00", "\x01a\x00", string(b)} {
			faulty(t, what, append(slices.Clone(b), more...), len(b), api.ErrStateRest)
		}
	}
}

// reading is a second reading of P7.2: entries, or a fault and its place.
func reading(b []byte) ([]api.Entry, int, api.Errno) {
	if !strings.HasPrefix(string(b), "SST1") {
		return nil, 0, api.ErrStateByte
	}
	count, p, ok := readNumber(b, 4)
	if !ok {
		return nil, 4, api.ErrStateByte
	}
	if count > 128 {
		return nil, 4, api.ErrStateForm
	}
	var l []api.Entry
	weight := 0
	for len(l) < int(count) {
		size, from, ok := readNumber(b, p)
		if !ok || size > 32 || int(size) > len(b)-from {
			return nil, p, api.ErrStateByte
		}
		key := string(b[from : from+int(size)])
		if key == "" || len(l) > 0 && strings.Compare(key, l[len(l)-1].Key) <= 0 {
			return nil, p, api.ErrStateForm
		}
		v, next, e := wire.Take(b, from+int(size))
		if e != api.OK {
			return nil, next, api.ErrStateByte
		}
		weight += 1 + len(key) + weigh(v)
		if weight > 32768 {
			return nil, p, api.ErrStateForm
		}
		l = append(l, at(key, v))
		p = next
	}
	if p != len(b) {
		return nil, p, api.ErrStateRest
	}
	return l, 0, api.OK
}

// readNumber reads one that stands in its one form.
func readNumber(b []byte, at int) (uint64, int, bool) {
	n, size := binary.Uvarint(b[at:])
	if size <= 0 || len(putNumber(nil, n)) != size {
		return 0, 0, false
	}
	return n, at + size, true
}

// meet holds Decode against the second reading; what it tells is written again as the same bytes.
func meet(t *testing.T, b []byte) api.Errno {
	t.Helper()
	want, at, code := reading(b)
	l, place, e := state.Decode(b)
	if e != code || place != at || !sameEntries(l, want) {
		t.Fatalf("%.80x: Decode answers %d entries, %d, %v, not %d, %d, %v", b, len(l), place, e, len(want), at, code)
	}
	if e == api.OK && !bytes.Equal(encoded(t, l), b) {
		t.Fatalf("%.80x: Encode of what Decode tells are other bytes", b)
	}
	return e
}

// some are states that are neither large nor all of one sort.
func some() [][]api.Entry {
	return [][]api.Entry{
		nil, each(), {at("a", number(1)), at("b", truth(1))},
		{at("a", list(number(300), text("ab"))), at("ab", record("k l", unit, list())), at("b", text("")), at(longest, arrays(7, unit))},
	}
}

func TestP72EveryBeginning(t *testing.T) {
	for _, l := range append(some(), heaviest(), numbered(128, unit)) {
		b := told(l)
		for end := range b {
			if e := meet(t, b[:end]); e != api.ErrStateByte {
				t.Fatalf("%d bytes of %d: %v", end, len(b), e)
			}
		}
		meet(t, b)
	}
}

func TestP72EveryByteChanged(t *testing.T) {
	seen := map[api.Errno]int{}
	for _, l := range some() {
		whole := told(l)
		for place := range whole {
			for c := range 256 {
				b := slices.Clone(whole)
				b[place] = byte(c)
				seen[meet(t, b)]++
				seen[meet(t, slices.Insert(slices.Clone(whole), place, byte(c)))]++
			}
			seen[meet(t, slices.Delete(slices.Clone(whole), place, place+1))]++
		}
	}
	for _, e := range []api.Errno{api.OK, api.ErrStateByte, api.ErrStateForm, api.ErrStateRest} {
		if seen[e] < 100 {
			t.Errorf("%v: %d times: the test asks too little", e, seen[e])
		}
	}
}

// All that can stand behind the head, of a few bytes.
func TestP72EveryShortRow(t *testing.T) {
	letters := []byte{0, 1, 2, 3, 'a', 0x80, 0x81}
	seen := map[api.Errno]int{}
	var walk func(b []byte)
	walk = func(b []byte) {
		seen[meet(t, b)]++
		if len(b) == 4+7 {
			return
		}
		for _, c := range letters {
			walk(append(slices.Clip(b), c))
		}
	}
	walk([]byte("SST1"))
	if seen[api.OK] < 15 || seen[api.ErrStateForm] < 10000 || seen[api.ErrStateRest] < 10000 {
		t.Errorf("%v: the test asks too little", seen)
	}
}

func TestP72Random(t *testing.T) {
	dice := rand.New(rand.NewSource(2))
	seen := map[api.Errno]int{}
	for range 20000 {
		b := make([]byte, dice.Intn(30))
		for i := range b {
			b[i] = byte(dice.Intn(1 << (1 + dice.Intn(8))))
		}
		seen[meet(t, b)]++
		seen[meet(t, append([]byte("SST1"), b...))]++
		var l []api.Entry
		for range dice.Intn(4) {
			l = append(l, at(randomKey(dice), randomValue(dice)))
		}
		seen[meet(t, append(laid(uint64(len(l)), l...), b[:min(len(b), dice.Intn(2))]...))]++
	}
	for _, e := range []api.Errno{api.OK, api.ErrStateByte, api.ErrStateForm, api.ErrStateRest} {
		if seen[e] < 1000 {
			t.Errorf("%v: %d times: the test asks too little", e, seen[e])
		}
	}
}

var light = slices.DeleteFunc(rights(), func(v api.Value) bool { return weigh(v) > 100 })

func randomValue(dice *rand.Rand) api.Value { return light[dice.Intn(len(light))] }

// leading is a second reading of what leads from a to b: of each key, in order, by itself.
func leading(a, b []api.Entry) []api.Change {
	was, is := map[string]api.Value{}, map[string]api.Value{}
	var keys []string
	for _, x := range a {
		was[x.Key] = x.Value
		keys = append(keys, x.Key)
	}
	for _, x := range b {
		is[x.Key] = x.Value
		keys = append(keys, x.Key)
	}
	slices.Sort(keys)
	var out []api.Change
	for _, key := range slices.Compact(keys) {
		old, had := was[key]
		now, has := is[key]
		if had && !has {
			out = append(out, gone(key))
		}
		if has && (!had || !same(old, now)) {
			out = append(out, to(key, now))
		}
	}
	return out
}

// between holds Diff against that, both ways, and Apply of it.
func between(t *testing.T, what string, a, b []api.Entry) {
	t.Helper()
	for _, x := range [][2][]api.Entry{{a, b}, {b, a}, {a, a}} {
		c, e := state.Diff(x[0], x[1])
		if want := leading(x[0], x[1]); e != api.OK || !sameChanges(c, want) {
			t.Fatalf("%s: Diff is %.80v, %v, not %.80v", what, c, e, want)
		}
		if l, e := state.Apply(x[0], c); e != api.OK || !sameEntries(l, x[1]) {
			t.Fatalf("%s: Apply answers %d entries, %v", what, len(l), e)
		}
	}
}

func TestP73Diff(t *testing.T) {
	for what, a := range goods() {
		for other, b := range goods() {
			between(t, what+" and "+other, a, b)
		}
	}
	three := numbered(3, unit)
	for i, v := range rights() {
		for j, w := range rights() {
			for place := range 3 {
				between(t, fmt.Sprintf("values %d, %d at %d", i, j, place), put(three, at(three[place].Key, v)), put(three, at(three[place].Key, w)))
			}
		}
	}
}

// An entry's own empty lists are none: a value with these is the same.
func TestP73DiffEmptyLists(t *testing.T) {
	bare := []api.Entry{at("a", unit), at("b", list()), at("c", text("t"))}
	full := []api.Entry{
		at("a", api.Value{L: []api.Value{}, K: []string{}}), at("b", api.Value{Kind: api.Array, L: []api.Value{}, K: []string{}}),
		at("c", api.Value{Kind: api.Bytes, S: "t", K: make([]string, 0, 4)}),
	}
	for _, x := range [][2][]api.Entry{{bare, full}, {full, bare}} {
		if c, e := state.Diff(x[0], x[1]); len(c) != 0 || e != api.OK {
			t.Error("Diff", c, e)
		}
		if l, e := state.Apply(x[0], []api.Change{to("a", x[1][0].Value)}); len(l) != 0 || e != api.ErrStateKey {
			t.Error("Apply", l, e)
		}
	}
}

func TestP73Refused(t *testing.T) {
	for what, bad := range bads() {
		for other, l := range map[string][]api.Entry{"nothing": nil, "one": numbered(1, unit), "many": numbered(128, unit), "itself": bad} {
			if c, e := state.Diff(bad, l); len(c) != 0 || e != api.ErrStateForm {
				t.Errorf("Diff of %s and %s: %d, %v", what, other, len(c), e)
			}
			if c, e := state.Diff(l, bad); len(c) != 0 || e != api.ErrStateForm {
				t.Errorf("Diff of %s and %s: %d, %v", other, what, len(c), e)
			}
		}
		for _, c := range [][]api.Change{nil, {to("zzz", unit)}, {gone("000")}, {gone("nowhere")}, {to("b", truth(2)), gone("a")}} {
			if l, e := state.Apply(bad, c); len(l) != 0 || e != api.ErrStateForm {
				t.Errorf("Apply of %s: %d, %v", what, len(l), e)
			}
		}
	}
}

// applied: does Apply answer these entries, and is c what leads to them?
func applied(t *testing.T, what string, l []api.Entry, c []api.Change, want []api.Entry) {
	t.Helper()
	if got, e := state.Apply(l, c); e != api.OK || !sameEntries(got, want) {
		t.Errorf("%s: Apply answers %d entries, %v", what, len(got), e)
	}
	if !sameChanges(leading(l, want), c) {
		t.Errorf("%s: something else leads there", what)
	}
}

func unfit(t *testing.T, what string, l []api.Entry, c ...api.Change) {
	t.Helper()
	if got, e := state.Apply(l, c); len(got) != 0 || e != api.ErrStateKey {
		t.Errorf("%s: Apply answers %d entries, %v", what, len(got), e)
	}
}

func TestP73Apply(t *testing.T) {
	three := numbered(3, number(1))
	applied(t, "nothing to nothing", nil, nil, nil)
	applied(t, "nothing", three, []api.Change{}, three)
	applied(t, "all gone", three, []api.Change{gone("000"), gone("001"), gone("002")}, nil)
	applied(t, "all new", nil, []api.Change{to("000", number(1)), to("001", number(1)), to("002", number(1))}, three)
	applied(t, "one gone", three, []api.Change{gone("001")}, []api.Entry{three[0], three[2]})
	applied(t, "ahead", three, []api.Change{to("00", unit)}, put(three, at("00", unit)))
	applied(t, "between", three, []api.Change{to("0005", unit)}, put(three, at("0005", unit)))
	applied(t, "behind", three, []api.Change{to("\xff", unit)}, put(three, at("\xff", unit)))
	applied(t, "another value", three, []api.Change{to("002", text("x"))}, put(three, at("002", text("x"))))
	applied(t, "each way", three, []api.Change{to("000", unit), gone("001"), to("0015", list()), gone("002"), to("1", number(2))}, []api.Entry{at("000", unit), at("0015", list()), at("1", number(2))})
	applied(t, "an empty list in what is gone", three, []api.Change{{Key: "000", Gone: true, Value: api.Value{L: []api.Value{}, K: []string{}}}}, three[1:])
	applied(t, "the longest key", three, []api.Change{to(longest, unit)}, put(three, at(longest, unit)))
	for i, v := range rights() {
		applied(t, fmt.Sprint("value ", i), three, []api.Change{to("x", v)}, put(three, at("x", v)))
		applied(t, fmt.Sprint("value ", i, " in another's place"), three, []api.Change{to("001", v)}, put(three, at("001", v)))
	}
}

func TestP73ApplyUnfit(t *testing.T) {
	three := numbered(3, number(1))
	for i, v := range rights() {
		l := put(three, at("001", v))
		unfit(t, fmt.Sprint("the same value ", i), l, to("001", v))
		if !same(v, unit) {
			unfit(t, fmt.Sprint("gone, with value ", i), l, api.Change{Key: "001", Gone: true, Value: v})
		}
	}
	for i, v := range wrongs() {
		unfit(t, fmt.Sprint("a wrong value ", i, ", new"), three, to("x", v))
		unfit(t, fmt.Sprint("a wrong value ", i), three, to("001", v))
		unfit(t, fmt.Sprint("a wrong value ", i, ", gone"), three, api.Change{Key: "001", Gone: true, Value: v})
		unfit(t, fmt.Sprint("a wrong value ", i, ", to nothing"), nil, to("x", v))
	}
	for what, c := range map[string][]api.Change{
		"gone that is not there":      {gone("0005")},
		"gone ahead of all":           {gone("00")},
		"gone behind all":             {gone("z")},
		"an empty key gone":           {gone("")},
		"an empty key":                {to("", unit)},
		"an empty key of more":        {to("", unit), to("x", unit)},
		"a long key":                  {to(tooLong, unit)},
		"a long key gone":             {gone(tooLong)},
		"falling":                     {to("y", unit), to("x", unit)},
		"falling, gone":               {gone("001"), gone("000")},
		"twice the same":              {to("x", unit), to("x", unit)},
		"twice":                       {to("x", unit), to("x", number(1))},
		"twice gone":                  {gone("000"), gone("000")},
		"gone, and there again":       {gone("000"), to("000", unit)},
		"there, and gone again":       {to("x", unit), gone("x")},
		"changed, and gone":           {to("000", unit), gone("000")},
		"the last of many":            {gone("000"), to("001", unit), gone("002"), to("x", unit), to("wz", unit)},
		"one that does not fit":       {gone("000"), to("001", number(1)), gone("002")},
		"the last does not fit":       {gone("000"), gone("001"), to("002", number(1))},
		"what is gone has a value":    {{Key: "000", Gone: true, Value: number(1)}},
		"what is gone has a list":     {{Key: "000", Gone: true, Value: list()}},
		"what is gone has a truth":    {{Key: "000", Gone: true, Value: truth(0)}},
		"what is gone has a number":   {{Key: "000", Gone: true, Value: api.Value{N: 1}}},
		"what is gone has an element": {{Key: "000", Gone: true, Value: api.Value{L: []api.Value{{}}}}},
	} {
		unfit(t, what, three, c...)
	}
	unfit(t, "gone of nothing", nil, gone("a"))
}

func TestP73ApplyFull(t *testing.T) {
	full := numbered(128, unit)
	unfit(t, "a 129th", full, to("x", unit))
	unfit(t, "129 of nothing", nil, leading(nil, numbered(129, unit))...)
	unfit(t, "100000 of nothing", nil, leading(nil, numbered(100000, unit))...)
	applied(t, "128 of nothing", nil, leading(nil, full), full)
	applied(t, "one for another, ahead", full, []api.Change{to("00", unit), gone("000")}, append([]api.Entry{at("00", unit)}, full[1:]...))
	applied(t, "one for another, behind", full, []api.Change{gone("127"), to("x", unit)}, append(slices.Clone(full[:127]), at("x", unit)))
	unfit(t, "two for one", full, gone("127"), to("x", unit), to("y", unit))
	applied(t, "others for all", full, leading(full, each()), each())
	heavies := heaviest()
	unfit(t, "a light one", heavies, to("y", unit))
	unfit(t, "one heavier by one", heavies, to("x", heavy(1987)))
	applied(t, "another one", heavies, []api.Change{to("x", units(1985))}, put(heavies, at("x", units(1985))))
	applied(t, "heavy for heavy", heavies, []api.Change{to("000", unit), to("y", heavy(2045))}, put(put(heavies, at("000", unit)), at("y", heavy(2045))))
	unfit(t, "too heavy for heavy", heavies, to("000", unit), to("y", heavy(2046)))
	applied(t, "heavy ahead of what goes", heavies, []api.Change{to("00", heavy(2048)), gone("000")}, append([]api.Entry{at("00", heavy(2048))}, heavies[1:]...))
	unfit(t, "too heavy ahead of what goes", heavies, to("0", heavy(2048)), to("00", unit), gone("000"))
	applied(t, "just full", without(heavies, "x"), []api.Change{to("x", heavy(1986))}, heavies)
	unfit(t, "just too full", without(heavies, "x"), to("x", heavy(1987)))
}

// worlds are all entries of some keys, each with one of some values, or without it.
func worlds(keys []string, values []api.Value) [][]api.Entry {
	if len(keys) == 0 {
		return [][]api.Entry{nil}
	}
	var out [][]api.Entry
	for _, l := range worlds(keys[1:], values) {
		out = append(out, l)
		for _, v := range values {
			out = append(out, put(l, at(keys[0], v)))
		}
	}
	return out
}

// All changes of a few keys and values: Apply goes to the one world to which just these lead, and refuses if there is none.
func TestP73EveryChange(t *testing.T) {
	keys, values := []string{"a", "b", "c"}, []api.Value{number(1), unit}
	all := worlds(keys, values)
	var single []api.Change
	for _, key := range append(keys, "") {
		single = append(single, gone(key), to(key, number(1)), to(key, unit), to(key, truth(2)), api.Change{Key: key, Gone: true, Value: number(1)})
	}
	fits, unfits := 0, 0
	var walk func(c []api.Change)
	walk = func(c []api.Change) {
		for _, l := range all {
			i := slices.IndexFunc(all, func(to []api.Entry) bool { return sameChanges(leading(l, to), c) })
			got, e := state.Apply(l, c)
			if i < 0 && (len(got) != 0 || e != api.ErrStateKey) || i >= 0 && (e != api.OK || !sameEntries(got, all[i])) {
				t.Fatalf("Apply(%v, %v) is %v, %v", l, c, got, e)
			}
			if i < 0 {
				unfits++
			} else {
				fits++
			}
		}
		if len(c) < 2 {
			for _, x := range single {
				walk(append(slices.Clip(c), x))
			}
		}
	}
	walk(nil)
	if len(all) != 27 || fits != 27+27*6+27*12 || unfits < 5000 {
		t.Errorf("%d worlds, %d fit, %d do not: the test asks too little", len(all), fits, unfits)
	}
	for _, a := range all {
		for _, b := range all {
			between(t, "worlds", a, b)
		}
	}
}

// randomStore are the entries of one that has come about by chance.
func randomStore(dice *rand.Rand) []api.Entry {
	s := store.New()
	for range dice.Intn(60) {
		s.Put(fmt.Sprint(dice.Intn(40)), randomValue(dice))
		s.Delete(fmt.Sprint(dice.Intn(40)))
	}
	return s.Entries()
}

func TestP75ThereAndBack(t *testing.T) {
	dice := rand.New(rand.NewSource(3))
	for range 500 {
		l := randomStore(dice)
		b := encoded(t, l)
		if !bytes.Equal(b, told(l)) || !sameEntries(decoded(t, b), l) {
			t.Fatalf("%v: Decode of Encode are others", l)
		}
		meet(t, b)
	}
	for what, l := range goods() {
		if !sameEntries(decoded(t, encoded(t, l)), l) {
			t.Errorf("%s: Decode of Encode are others", what)
		}
	}
}

func TestP75Unlike(t *testing.T) {
	all := worlds([]string{"a", "a\x00", "b"}, []api.Value{unit, truth(0), number(0), text("\x01"), list(), list(unit)})
	for _, l := range goods() {
		if len(l) > 0 {
			all = append(all, l)
		}
	}
	rows := make([][]byte, len(all))
	digests := map[[32]byte]bool{}
	for i, l := range all {
		rows[i] = encoded(t, l)
		d, _ := state.Digest(l)
		digests[d] = true
	}
	for i, a := range rows {
		for j, b := range rows {
			if i != j && bytes.HasPrefix(a, b) {
				t.Fatalf("%.60x begins with %.60x", a, b)
			}
		}
	}
	if len(digests) != len(all) || len(all) < 350 {
		t.Errorf("%d digests of %d states", len(digests), len(all))
	}
}

// Stores with the same entries have the same bytes, however they came about.
func TestP75HoweverCameAbout(t *testing.T) {
	l := each()
	forth, back := store.New(), store.New()
	for i := range l {
		forth.Put(l[i].Key, l[i].Value)
		back.Put(l[i].Key+"x", unit)
	}
	for _, x := range slices.Backward(l) {
		back.Delete(x.Key + "x")
		back.Put(x.Key, unit)
		back.Put(x.Key, x.Value)
	}
	if a, b := encoded(t, forth.Entries()), encoded(t, back.Entries()); !bytes.Equal(a, b) || !bytes.Equal(a, told(l)) {
		t.Error("the same entries have unlike bytes")
	}
}

func TestP76ThereByDiff(t *testing.T) {
	dice := rand.New(rand.NewSource(4))
	changes := 0
	for range 1000 {
		a, b := randomStore(dice), randomStore(dice)
		between(t, "random", a, b)
		changes += len(leading(a, b))
	}
	if changes < 10000 {
		t.Errorf("%d changes: the test asks too little", changes)
	}
}

// piece is some memory: a list with its spare room, or a text.
type piece struct{ from, to uintptr }

func listPiece[T any](l []T) []piece {
	if cap(l) == 0 {
		return nil
	}
	from := uintptr(unsafe.Pointer(unsafe.SliceData(l)))
	return []piece{{from, from + uintptr(cap(l))*unsafe.Sizeof(l[:1][0])}}
}

func textPiece(s string) []piece {
	if s == "" {
		return nil
	}
	from := uintptr(unsafe.Pointer(unsafe.StringData(s)))
	return []piece{{from, from + uintptr(len(s))}}
}

func pieces(v api.Value) []piece {
	out := slices.Concat(listPiece(v.L), listPiece(v.K), textPiece(v.S))
	for _, key := range v.K {
		out = append(out, textPiece(key)...)
	}
	for _, x := range v.L {
		out = append(out, pieces(x)...)
	}
	return out
}

func entryPieces(l []api.Entry) []piece {
	out := listPiece(l)
	for _, x := range l {
		out = append(out, slices.Concat(textPiece(x.Key), pieces(x.Value))...)
	}
	return out
}

func changePieces(c []api.Change) []piece {
	out := listPiece(c)
	for _, x := range c {
		out = append(out, slices.Concat(textPiece(x.Key), pieces(x.Value))...)
	}
	return out
}

// shared: does one of these pieces meet another one of them, or one of those that were given?
func shared(answer []piece, given ...[]piece) bool {
	for i, a := range answer {
		for _, b := range slices.Concat(answer[i+1:], slices.Concat(given...)) {
			if a.from < b.to && b.from < a.to {
				return true
			}
		}
	}
	return false
}

// rich is a value with lists and texts within one another, in memory of its own, with spare room.
func rich() api.Value {
	inner := list(text(strings.Clone("inner")))
	v := record("", number(1), inner, inner)
	v.K = []string{strings.Clone("one"), strings.Clone("three"), strings.Clone("two")}
	v.L = slices.Grow(v.L, 5)
	v.K = slices.Grow(v.K, 5)
	v.L[:4][3] = text("spare")
	v.K[:4][3] = "spare"
	return v
}

func untouched(v api.Value) bool {
	return same(v, rich()) && v.L[:4][3].S == "spare" && v.K[:4][3] == "spare"
}

// given are entries of those keys with rich values, one of them twice the same, with spare room behind.
func given(keys ...string) []api.Entry {
	one := rich()
	var l []api.Entry
	for i, key := range keys {
		x := at(strings.Clone(key), one)
		if i > 1 {
			x.Value = rich()
		}
		l = append(l, x)
	}
	return append(l, at("spare", unit))[:len(keys)]
}

func left(l []api.Entry, keys ...string) bool {
	for i, x := range l {
		if x.Key != keys[i] || !untouched(x.Value) {
			return false
		}
	}
	return len(l) == len(keys) && reflect.DeepEqual(l[:len(l)+1][len(l)], at("spare", unit))
}

func TestP74NewMemory(t *testing.T) {
	a, b := given("a", "b", "c"), given("b", "c", "d", "e")
	b[0].Value = text(strings.Clone("other"))
	c, e := state.Diff(a, b)
	if e != api.OK || len(c) != 4 || shared(changePieces(c), entryPieces(a), entryPieces(b)) {
		t.Error("Diff shares memory", len(c), e)
	}
	if !left(a, "a", "b", "c") || !left(b[1:], "c", "d", "e") {
		t.Error("Diff changes what was handed in")
	}
	c = append(c, to("spare", unit))[:4]
	l, e := state.Apply(a, c)
	if e != api.OK || !sameEntries(l, b) || shared(entryPieces(l), entryPieces(a), changePieces(c)) {
		t.Error("Apply shares memory", e)
	}
	if !left(a, "a", "b", "c") || !sameChange(c[:5][4], to("spare", unit)) || !sameChanges(c, leading(a, b)) {
		t.Error("Apply changes what was handed in")
	}
	l, e = state.Apply(a, nil)
	if e != api.OK || !sameEntries(l, a) || shared(entryPieces(l), entryPieces(a)) {
		t.Error("Apply of no changes shares memory", e)
	}
	again, e := state.Apply(a, nil)
	if e != api.OK || shared(entryPieces(l), entryPieces(again)) {
		t.Error("two answers share memory", e)
	}
}

func TestP74NewMemoryOfBytes(t *testing.T) {
	a := given("a", "b", "c")
	one, e := state.Encode(a)
	two, f := state.Encode(a)
	if e != api.OK || f != api.OK || shared(slices.Concat(listPiece(one), listPiece(two)), entryPieces(a)) || !left(a, "a", "b", "c") {
		t.Error("Encode shares memory", e, f)
	}
	b := append(slices.Clone(one), "spare"...)[:len(one)]
	l, _, e := state.Decode(b)
	if e != api.OK || shared(entryPieces(l), listPiece(b)) || !bytes.Equal(b, one) || string(b[:len(b)+5][len(b):]) != "spare" {
		t.Error("Decode shares memory", e)
	}
	clear(b[:cap(b)])
	if !sameEntries(l, a) {
		t.Error("what Decode told has gone with the bytes")
	}
	if _, e := state.Digest(a); e != api.OK || !left(a, "a", "b", "c") {
		t.Error("Digest changes what was handed in", e)
	}
}

// Refused calls leave what was handed in as it was, too.
func TestP74Refused(t *testing.T) {
	a := given("b", "a")
	state.Encode(a)
	state.Digest(a)
	state.Diff(a, a)
	state.Apply(a, nil)
	if !left(a, "b", "a") {
		t.Error("what was refused has changed")
	}
	a = given("a", "b")
	c := []api.Change{gone("b"), gone("a")}
	if _, e := state.Apply(a, c); e != api.ErrStateKey || !left(a, "a", "b") || !sameChanges(c, []api.Change{gone("b"), gone("a")}) {
		t.Error("what was refused has changed", e)
	}
}

func TestR1Nothing(t *testing.T) {
	if l, e := state.Apply(nil, nil); len(l) != 0 || e != api.OK {
		t.Error("Apply", l, e)
	}
	if c, e := state.Diff(nil, []api.Entry{}); len(c) != 0 || e != api.OK {
		t.Error("Diff", c, e)
	}
	if l, place, e := state.Decode([]byte("SST1\x00")); len(l) != 0 || place != 0 || e != api.OK {
		t.Error("Decode", l, place, e)
	}
	a, _ := state.Digest(nil)
	if b, _ := state.Digest([]api.Entry{}); a != b {
		t.Error("Digest of nil and of empty lists are unlike")
	}
}
