package store_test

import (
	"fmt"
	"maps"
	"math"
	"math/rand"
	"reflect"
	"runtime"
	"slices"
	"strings"
	"testing"
	"unsafe"

	"scruple/api"
	"scruple/store"
)

var unit = api.Value{}

func truth(n int64) api.Value { return api.Value{Kind: api.Bool, N: n} }

func number(n int64) api.Value { return api.Value{Kind: api.Int, N: n} }

func text(s string) api.Value { return api.Value{Kind: api.Bytes, S: s} }

func list(l ...api.Value) api.Value { return api.Value{Kind: api.Array, L: l} }

// record is one of keys, parted by spaces, and their values, laid down as they are told.
func record(keys string, l ...api.Value) api.Value {
	return api.Value{Kind: api.Record, K: strings.Fields(keys), L: l}
}

// arrays is x within so many arrays.
func arrays(count int, x api.Value) api.Value {
	for range count {
		x = list(x)
	}
	return x
}

// units is an array of so many units: its weight is one more.
func units(count int) api.Value { return list(make([]api.Value, count)...) }

// heavy is a value of that weight.
func heavy(weight int) api.Value { return text(strings.Repeat("h", weight-1)) }

// endless is an array that holds itself, so often.
func endless(count int) api.Value {
	v := units(count)
	for i := range v.L {
		v.L[i] = v
	}
	return v
}

// same: have two values the same, nil and empty lists being one?
func same(a, b api.Value) bool {
	return a.Kind == b.Kind && a.N == b.N && a.S == b.S && slices.Equal(a.K, b.K) && slices.EqualFunc(a.L, b.L, same)
}

func zero(v api.Value) bool { return reflect.DeepEqual(v, api.Value{}) }

// rights are right values of every kind, the deepest and the heaviest ones among them.
func rights() []api.Value {
	return []api.Value{
		unit, truth(0), truth(1), number(0), number(-1), number(math.MinInt64), number(math.MaxInt64),
		text(""), text("a"), text("\x00\xff"), heavy(2048),
		list(), list(unit), list(number(1), text("ab"), list(truth(1))), units(2047), arrays(7, unit),
		record(""), record("a", number(1)), record("a b", list(), record("c", text("d"))),
		{Kind: api.Record, K: []string{""}, L: []api.Value{unit}},
		{L: []api.Value{}, K: []string{}}, {Kind: api.Array, L: []api.Value{}, K: []string{}},
	}
}

// wrongs are values that are not right, each for one reason.
func wrongs() []api.Value {
	return []api.Value{
		{Kind: -1}, {Kind: 6}, {Kind: math.MaxInt}, {Kind: math.MinInt},
		{N: 1}, {S: "a"}, {L: []api.Value{{}}}, {K: []string{""}},
		truth(2), truth(-1), {Kind: api.Bool, S: "a"}, {Kind: api.Int, S: "a"}, {Kind: api.Bytes, N: 1},
		{Kind: api.Array, N: -1}, {Kind: api.Array, S: "a"}, {Kind: api.Array, K: []string{""}},
		{Kind: api.Record, N: 1}, {Kind: api.Record, S: "a"}, {Kind: api.Record, K: []string{""}},
		record("a", unit, unit), record("a b", unit), record("b a", unit, unit), record("a a", unit, unit), record(strings.Repeat("k", 33), unit),
		list(truth(2)), list(unit, truth(2)), record("a", truth(2)),
		heavy(2049), units(2048), list(heavy(2048)), heavy(100000), arrays(8, unit), arrays(60000, unit),
		endless(1), endless(2), endless(2000),
	}
}

// weigh is what the document's table says that a right value weighs.
func weigh(v api.Value) int {
	w := 1 + len(v.S)
	for _, key := range v.K {
		w += 1 + len(key)
	}
	for _, x := range v.L {
		w += weigh(x)
	}
	return w
}

// probes are texts that are keys or not: the empty one, beginnings of others, bytes that make no rune, of 31 to 33 bytes, a long one.
func probes() []string {
	return []string{
		"", "\x00", "\x00\x00", "A", "a", "a\x00", "aa", "ab", "b", "z", "\x7f", "\x80", "é", "\xff", "\xff\xff",
		strings.Repeat("k", 31), strings.Repeat("k", 32), strings.Repeat("k", 33), strings.Repeat("k", 31) + "\xff", strings.Repeat("\xff", 32), strings.Repeat("\xff", 33), strings.Repeat("a", 100000),
	}
}

func may(key string) bool { return len(key) > 0 && len(key) < 33 }

// model is a second reading of the chapter: a map of what stands, and a whole one for each open checkpoint.
type model struct {
	now   map[string]api.Value
	marks []map[string]api.Value
}

func empty() *model { return &model{now: map[string]api.Value{}} }

func (m *model) keys() []string { return slices.Sorted(maps.Keys(m.now)) }

func (m *model) weight() int {
	w := 0
	for key, v := range m.now {
		w += 1 + len(key) + weigh(v)
	}
	return w
}

// put is Put of a right value.
func (m *model) put(key string, v api.Value) api.Errno {
	if !may(key) {
		return api.ErrStoreKey
	}
	old, was := m.now[key]
	m.now[key] = v
	if len(m.now) <= 128 && m.weight() <= 32768 {
		return api.OK
	}
	delete(m.now, key)
	if was {
		m.now[key] = old
	}
	return api.ErrStoreFull
}

func (m *model) remove(key string) bool {
	_, was := m.now[key]
	delete(m.now, key)
	return was
}

func (m *model) checkpoint() int {
	m.marks = append(m.marks, maps.Clone(m.now))
	return len(m.marks)
}

func (m *model) shut(back bool) api.Errno {
	if len(m.marks) == 0 {
		return api.ErrStoreMark
	}
	if back {
		m.now = m.marks[len(m.marks)-1]
	}
	m.marks = m.marks[:len(m.marks)-1]
	return api.OK
}

func (m *model) after(key string) (string, bool) {
	for _, k := range m.keys() {
		if k > key {
			return k, true
		}
	}
	return "", false
}

// meet holds a store against the model, by every call that changes nothing, at its keys and at some more.
func meet(t *testing.T, what string, s *store.Store, m *model, more ...string) {
	t.Helper()
	keys := m.keys()
	if s.Len() != len(keys) || s.Weight() != m.weight() || s.Open() != len(m.marks) {
		t.Fatalf("%s: Len, Weight, Open are %d, %d, %d, not %d, %d, %d", what, s.Len(), s.Weight(), s.Open(), len(keys), m.weight(), len(m.marks))
	}
	all := s.Entries()
	for i, x := range all {
		if i >= len(keys) || x.Key != keys[i] || !same(x.Value, m.now[x.Key]) {
			t.Fatalf("%s: entry %d is another one: %q", what, i, x.Key)
		}
	}
	if len(all) != len(keys) {
		t.Fatalf("%s: there are %d entries, not %d", what, len(all), len(keys))
	}
	for _, key := range slices.Concat(keys, more) {
		want, is := m.now[key]
		if v, ok := s.Get(key); ok != is || !same(v, want) || !ok && !zero(v) {
			t.Fatalf("%s: Get(%.40q) is %.40v, %v", what, key, v, ok)
		}
		next, above := m.after(key)
		if k, ok := s.After(key); k != next || ok != above {
			t.Fatalf("%s: After(%.40q) is %q, %v, not %q, %v", what, key, k, ok, next, above)
		}
	}
}

// numbered are so many entries of keys of three bytes, each with v.
func numbered(count int, v api.Value) []api.Entry {
	var l []api.Entry
	for i := range count {
		l = append(l, api.Entry{Key: fmt.Sprintf("%03d", i), Value: v})
	}
	return l
}

// modelOf has entries.
func modelOf(l []api.Entry) *model {
	m := empty()
	for _, x := range l {
		m.now[x.Key] = x.Value
	}
	return m
}

// made is a store of entries.
func made(t *testing.T, l []api.Entry) *store.Store {
	t.Helper()
	s, e := store.From(l)
	if e != api.OK || s == nil {
		t.Fatalf("From of %d entries: %v", len(l), e)
	}
	return s
}

func TestExamples(t *testing.T) {
	s, m := store.New(), empty()
	if a, b, c, d := s.Put("b", number(2)), s.Put("a", number(1)), s.Put("", unit), s.Put("x", truth(2)); a != api.OK || b != api.OK || c != api.ErrStoreKey || d != api.ErrStoreValue {
		t.Error("Put", a, b, c, d)
	}
	m.now["a"], m.now["b"] = number(1), number(2)
	if s.Len() != 2 || s.Weight() != 6 {
		t.Error("Len, Weight", s.Len(), s.Weight())
	}
	for _, x := range []struct {
		key, next string
		above     bool
	}{{"", "a", true}, {"a", "b", true}, {"b", "", false}} {
		if k, ok := s.After(x.key); k != x.next || ok != x.above {
			t.Errorf("After(%q) is %q, %v", x.key, k, ok)
		}
	}
	meet(t, "two entries", s, m)
	if s.Checkpoint() != 1 || s.Put("a", unit) != api.OK || s.Checkpoint() != 2 || !s.Delete("b") || s.Delete("b") || s.Commit() != api.OK {
		t.Error("behind a checkpoint")
	}
	meet(t, "a Commit", s, &model{now: map[string]api.Value{"a": unit}, marks: make([]map[string]api.Value, 1)})
	if s.Open() != 1 || s.Rollback() != api.OK || s.Rollback() != api.ErrStoreMark {
		t.Error("Open, Rollback")
	}
	meet(t, "a Rollback", s, m)
	a, b, wrong := api.Entry{Key: "a"}, api.Entry{Key: "b"}, api.Entry{Key: "a", Value: truth(2)}
	for i, x := range []struct {
		l    []api.Entry
		want api.Errno
	}{{[]api.Entry{b, a}, api.ErrStoreKey}, {[]api.Entry{a, a}, api.ErrStoreKey}, {[]api.Entry{wrong}, api.ErrStoreValue}} {
		if s, e := store.From(x.l); s != nil || e != x.want {
			t.Errorf("From %d: %v", i, e)
		}
	}
	s = store.New()
	for _, x := range numbered(128, unit) {
		if e := s.Put(x.Key, x.Value); e != api.OK {
			t.Errorf("Put(%q): %v", x.Key, e)
		}
	}
	if a, b := s.Put("more", unit), s.Put("017", number(17)); a != api.ErrStoreFull || b != api.OK {
		t.Error("Put of a full store", a, b)
	}
}

func TestP61New(t *testing.T) {
	s := store.New()
	if s == nil {
		t.Fatal("New is nil")
	}
	meet(t, "New", s, empty(), probes()...)
	if s == store.New() {
		t.Error("New is twice the same store")
	}
	store.New().Put("a", unit)
	meet(t, "New, behind a Put of another one", s, empty(), "a")
}

func TestP61From(t *testing.T) {
	var each, kinds []api.Entry
	keys := slices.DeleteFunc(probes(), func(key string) bool { return !may(key) })
	slices.Sort(keys)
	for i, key := range keys {
		each = append(each, api.Entry{Key: key, Value: number(int64(i))})
	}
	for i, v := range rights() {
		kinds = append(kinds, api.Entry{Key: fmt.Sprintf("%03d", i), Value: v})
	}
	for what, l := range map[string][]api.Entry{
		"nil": nil, "empty": {}, "one": numbered(1, unit), "127": numbered(127, number(1)), "128": numbered(128, list()),
		"keys": each, "kinds": kinds, "the heaviest": append(numbered(15, heavy(2048)), api.Entry{Key: "x", Value: heavy(1986)}),
	} {
		s := made(t, l)
		meet(t, "From of "+what, s, modelOf(l), probes()...)
		if e := s.Rollback(); e != api.ErrStoreMark {
			t.Errorf("From of %s has an open checkpoint: %v", what, e)
		}
	}
}

// changed is l with something else at a place.
func changed(l []api.Entry, at int, key string, v api.Value) []api.Entry {
	out := slices.Clone(l)
	out[at] = api.Entry{Key: key, Value: v}
	return out
}

func refused(t *testing.T, what string, l []api.Entry, want api.Errno) {
	t.Helper()
	if s, e := store.From(l); e != want || s != nil {
		t.Errorf("%s: From answers %v, %v, not %v", what, s != nil, e, want)
	}
}

func TestP61FromKeys(t *testing.T) {
	three := numbered(3, unit)
	for at := range 3 {
		for _, key := range []string{"", strings.Repeat("0", 33), strings.Repeat("1", 33), strings.Repeat("z", 100000)} {
			refused(t, fmt.Sprintf("%.40q at %d", key, at), changed(three, at, key, unit), api.ErrStoreKey)
		}
	}
	for what, keys := range map[string][]string{
		"the same": {"a", "a"}, "falling": {"b", "a"}, "a beginning": {"ab", "a"}, "later": {"a", "b", "b"}, "behind the first": {"a", "c", "b", "d"},
		"above the first alone": {"b", "d", "c"}, "bytes": {"\xff", "\x7f"}, "no runes": {"\xff", "é"}, "capital": {"a", "B"}, "noughts": {"\x00\x00", "\x00"}, "ten": {"9", "10"},
	} {
		var l []api.Entry
		for _, key := range keys {
			l = append(l, api.Entry{Key: key})
		}
		refused(t, what, l, api.ErrStoreKey)
	}
}

func TestP61FromValues(t *testing.T) {
	three := numbered(3, unit)
	for i, v := range wrongs() {
		for at := range 3 {
			refused(t, fmt.Sprintf("wrong value %d at %d", i, at), changed(three, at, three[at].Key, v), api.ErrStoreValue)
		}
	}
}

func TestP61FromFull(t *testing.T) {
	for what, l := range map[string][]api.Entry{
		"129 entries":      numbered(129, unit),
		"1000 entries":     numbered(1000, number(5)),
		"17 heavy ones":    numbered(17, heavy(2048)),
		"both":             numbered(500, heavy(2048)),
		"one above":        append(numbered(15, heavy(2048)), api.Entry{Key: "x", Value: heavy(1987)}),
		"one above by key": append(numbered(15, heavy(2048)), api.Entry{Key: "xx", Value: heavy(1986)}),
		"128, one above":   changed(numbered(128, heavy(252)), 0, "000", heavy(253)),
	} {
		refused(t, what, l, api.ErrStoreFull)
	}
	made(t, numbered(128, heavy(252)))
}

// The first entry at which something is wrong tells, its key ahead of its value; how many there are, and how heavy, comes last.
func TestP61FromFirstFault(t *testing.T) {
	three, many := numbered(3, unit), numbered(300, heavy(2048))
	for what, x := range map[string]struct {
		l    []api.Entry
		want api.Errno
	}{
		"key and value of one":      {changed(three, 1, "", truth(2)), api.ErrStoreKey},
		"order and value of one":    {changed(three, 1, "000", truth(2)), api.ErrStoreKey},
		"first and value":           {changed(three, 0, "", truth(2)), api.ErrStoreKey},
		"value, then key":           {changed(changed(three, 0, "000", truth(2)), 1, "", unit), api.ErrStoreValue},
		"value, then order":         {changed(changed(three, 1, "001", truth(2)), 2, "001", unit), api.ErrStoreValue},
		"key, then value":           {changed(changed(three, 0, "", unit), 1, "001", truth(2)), api.ErrStoreKey},
		"order, then value":         {changed(changed(three, 1, "000", unit), 2, "002", truth(2)), api.ErrStoreKey},
		"key, and full":             {changed(many, 299, "", heavy(2048)), api.ErrStoreKey},
		"a long key, and full":      {changed(many, 299, strings.Repeat("9", 33), unit), api.ErrStoreKey},
		"order, and full":           {changed(many, 200, "199", unit), api.ErrStoreKey},
		"value, and full":           {changed(many, 299, "299", truth(2)), api.ErrStoreValue},
		"value, key, and full":      {changed(changed(many, 298, "298", truth(2)), 299, "", unit), api.ErrStoreValue},
		"full alone":                {many, api.ErrStoreFull},
		"order behind a wrong one":  {changed(three, 0, "5", truth(2)), api.ErrStoreValue},
		"value too heavy, and full": {changed(many, 0, "000", heavy(2049)), api.ErrStoreValue},
	} {
		refused(t, what, x.l, x.want)
	}
}

func TestP62GetPutDelete(t *testing.T) {
	s, m := store.New(), empty()
	for i, v := range rights() {
		key := fmt.Sprint("key", i%16)
		if e := s.Put(key, v); e != api.OK || m.put(key, v) != api.OK {
			t.Fatalf("Put(%q, %.40v): %v", key, v, e)
		}
		meet(t, fmt.Sprint("value ", i), s, m, probes()...)
	}
	for i := range 20 {
		key := fmt.Sprint("key", i)
		if was := s.Delete(key); was != m.remove(key) {
			t.Errorf("Delete(%q) is %v", key, was)
		}
		if s.Delete(key) {
			t.Errorf("Delete(%q) is true again", key)
		}
		meet(t, "behind Delete of "+key, s, m, probes()...)
	}
}

func TestP62Keys(t *testing.T) {
	s, m := store.New(), empty()
	for i, key := range probes() {
		v := number(int64(i))
		want := m.put(key, v)
		if e := s.Put(key, v); e != want {
			t.Errorf("Put(%.40q): %v, not %v", key, e, want)
		}
		meet(t, fmt.Sprintf("behind Put(%.40q)", key), s, m, probes()...)
	}
	for _, key := range probes() {
		if was := s.Delete(key); was != m.remove(key) {
			t.Errorf("Delete(%.40q) is %v", key, was)
		}
		meet(t, fmt.Sprintf("behind Delete(%.40q)", key), s, m, probes()...)
	}
	for i := range 256 {
		key := string([]byte{byte(i)})
		if e := s.Put(key, text(key)); e != api.OK {
			t.Errorf("Put(%q): %v", key, e)
		}
		if v, ok := s.Get(key); !ok || v.S != key || !s.Delete(key) || s.Weight() != 0 {
			t.Errorf("Get(%q) is %v, %v", key, v, ok)
		}
	}
}

func TestP62WrongValues(t *testing.T) {
	s, m := store.New(), empty()
	s.Put("a", number(1))
	m.put("a", number(1))
	for i, v := range wrongs() {
		for _, key := range []string{"a", "b"} {
			if e := s.Put(key, v); e != api.ErrStoreValue {
				t.Errorf("Put(%q, wrong %d): %v", key, i, e)
			}
		}
		for _, key := range []string{"", strings.Repeat("k", 33), strings.Repeat("k", 100000)} {
			if e := s.Put(key, v); e != api.ErrStoreKey {
				t.Errorf("Put(%.40q, wrong %d): %v", key, i, e)
			}
		}
	}
	meet(t, "behind wrong values", s, m, "b", "")
}

func TestP62FullOfEntries(t *testing.T) {
	l := numbered(128, unit)
	s, m := made(t, l), modelOf(l)
	for _, key := range []string{"", "\x00", "0000", "127a", "z", strings.Repeat("k", 32), strings.Repeat("k", 33)} {
		want := api.ErrStoreFull
		if !may(key) {
			want = api.ErrStoreKey
		}
		if e := s.Put(key, unit); e != want {
			t.Errorf("Put(%q): %v, not %v", key, e, want)
		}
		if e := s.Put(key, truth(2)); may(key) && e != api.ErrStoreValue {
			t.Errorf("Put(%q) of a wrong value: %v", key, e)
		}
	}
	meet(t, "a full store", s, m, "\x00", "z")
	for _, key := range []string{"000", "064", "127"} {
		if e := s.Put(key, text("new")); e != api.OK || m.put(key, text("new")) != api.OK {
			t.Errorf("Put(%q): %v", key, e)
		}
	}
	meet(t, "a full store, changed", s, m, "z")
	if !s.Delete("064") || s.Put("z", unit) != api.OK || s.Put("064", unit) != api.ErrStoreFull {
		t.Error("behind a Delete there is room for one")
	}
	m.remove("064")
	m.put("z", unit)
	meet(t, "a full store of others", s, m, "064")
}

func TestP62FullByWeight(t *testing.T) {
	l := numbered(15, heavy(2048)) // 15 times 2052: 30780, and 1988 are left
	for _, x := range []struct {
		key  string
		v    api.Value
		want api.Errno
	}{
		{"x", heavy(1986), api.OK}, {"x", heavy(1987), api.ErrStoreFull}, {"xx", heavy(1986), api.ErrStoreFull}, {"xx", heavy(1985), api.OK},
		{"x", units(1985), api.OK}, {"x", units(1986), api.ErrStoreFull}, {"x", record("k", heavy(1983)), api.OK}, {"x", record("k", heavy(1984)), api.ErrStoreFull},
		{strings.Repeat("x", 32), heavy(1955), api.OK}, {strings.Repeat("x", 32), heavy(1956), api.ErrStoreFull}, {"x", heavy(2048), api.ErrStoreFull},
		{"007", heavy(2048), api.OK}, {"007", unit, api.OK}, {"", heavy(2048), api.ErrStoreKey}, {"x", heavy(2049), api.ErrStoreValue},
	} {
		s, m := made(t, l), modelOf(l)
		if e := s.Put(x.key, x.v); e != x.want {
			t.Errorf("Put(%q) of the weight %d: %v, not %v", x.key, weigh(x.v), e, x.want)
		}
		if x.want == api.OK {
			m.now[x.key] = x.v
		}
		meet(t, "heavy, behind Put of "+x.key, s, m, "x", "xx")
	}
}

// What stood under the key does not count, and what takes its place does.
func TestP62FullInPlace(t *testing.T) {
	l := append(numbered(15, heavy(2048)), api.Entry{Key: "x", Value: heavy(1900)})
	for weight := 1985; weight <= 1988; weight++ {
		s, m := made(t, l), modelOf(l)
		want := m.put("x", heavy(weight))
		if e := s.Put("x", heavy(weight)); e != want || (e == api.OK) != (weight <= 1986) {
			t.Errorf("Put of the weight %d: %v", weight, e)
		}
		meet(t, "in place", s, m)
		if e := s.Put("y", unit); e != m.put("y", unit) || (e == api.OK) != (weight == 1987 || weight == 1988) {
			t.Errorf("behind Put of the weight %d: %v", weight, e)
		}
		if e := s.Put("x", unit); e != m.put("x", unit) || e != api.OK {
			t.Errorf("lighter: %v", e)
		}
		if e := s.Put("y", heavy(1900)); e != m.put("y", heavy(1900)) || e != api.OK {
			t.Errorf("there is room again: %v", e)
		}
		meet(t, "lighter, and another one", s, m)
	}
}

func TestP63After(t *testing.T) {
	var keys []string
	for _, key := range probes() {
		if may(key) {
			keys = append(keys, key)
		}
	}
	dice := rand.New(rand.NewSource(3))
	for range 300 {
		s, m := store.New(), empty()
		for _, key := range keys {
			if dice.Intn(2) == 0 {
				s.Put(key, unit)
				m.put(key, unit)
			}
		}
		meet(t, "some keys", s, m, probes()...)
	}
}

func TestP64LenWeightEntries(t *testing.T) {
	s := store.New()
	for i, x := range []struct {
		key    string
		v      api.Value
		weight int
	}{
		{"b", unit, 3}, {"a", truth(1), 6}, {"ccc", number(-7), 11}, {"b", text(""), 11}, {"b", text("four"), 15}, {"d", list(), 18},
		{"d", list(unit, list(text("x"))), 22}, {"d", record("k ll", unit, number(1)), 25}, {strings.Repeat("k", 32), unit, 59}, {"b", unit, 55},
	} {
		if e := s.Put(x.key, x.v); e != api.OK || s.Weight() != x.weight {
			t.Errorf("%d: %v, the weight is %d, not %d", i, e, s.Weight(), x.weight)
		}
	}
	var keys []string
	for _, x := range s.Entries() {
		keys = append(keys, x.Key)
	}
	if want := []string{"a", "b", "ccc", "d", strings.Repeat("k", 32)}; !slices.Equal(keys, want) || s.Len() != 5 {
		t.Errorf("the keys are %q, %d of them", keys, s.Len())
	}
}

func TestP65Marks(t *testing.T) {
	s := store.New()
	shutAll := func(want api.Errno) {
		t.Helper()
		if a, b := s.Rollback(), s.Commit(); a != want || b != want {
			t.Errorf("Rollback, Commit: %v, %v, not %v", a, b, want)
		}
	}
	shutAll(api.ErrStoreMark)
	for i := 1; i <= 6; i++ {
		if n := s.Checkpoint(); n != i || s.Open() != i {
			t.Errorf("Checkpoint is %d, Open is %d, not %d", n, s.Open(), i)
		}
	}
	for i := 4; i >= 0; i -= 2 {
		if shutAll(api.OK); s.Open() != i {
			t.Errorf("Open is %d, not %d", s.Open(), i)
		}
	}
	shutAll(api.ErrStoreMark)
	if s.Put("a", unit) != api.OK {
		t.Error("Put")
	}
	shutAll(api.ErrStoreMark)
	if s.Len() != 1 || s.Open() != 0 || s.Checkpoint() != 1 {
		t.Error("a refused Rollback has changed something")
	}
}

// pair is a store and the model, to which the same is done.
type pair struct {
	t *testing.T
	s *store.Store
	m *model
}

func both(t *testing.T) *pair { return &pair{t, store.New(), empty()} }

// do is one call of both of them, told as a word: +a1 is Put of 1 under a, -a Delete of a, ( Checkpoint, < Rollback, ) Commit.
func (p *pair) do(word string) {
	p.t.Helper()
	var got, want any
	switch word[0] {
	case '+':
		v := number(int64(word[2] - '0'))
		got, want = p.s.Put(word[1:2], v), p.m.put(word[1:2], v)
	case '-':
		got, want = p.s.Delete(word[1:]), p.m.remove(word[1:])
	case '(':
		got, want = p.s.Checkpoint(), p.m.checkpoint()
	case '<':
		got, want = p.s.Rollback(), p.m.shut(true)
	case ')':
		got, want = p.s.Commit(), p.m.shut(false)
	}
	if got != want {
		p.t.Fatalf("%s answers %v, not %v", word, got, want)
	}
}

func TestP65Rows(t *testing.T) {
	for _, row := range []string{
		"( +a1 <", "( +a1 ) <", "+a1 ( -a <", "+a1 ( +a2 <", "+a1 ( +a1 <",
		"( +a1 +a2 +a3 <", "+a1 ( +a2 +a3 -a +a4 <", "+a1 ( -a +a2 -a <", "( +a1 -a <", "( +a1 -a +a2 <", "( +a1 -a +a2 -a <",
		"( +a1 ( +a2 < <", "( +a1 ( +a2 ) <", "+a1 ( +a2 ( +a3 ) <", "+a1 ( +a2 ( +a3 ) ( +a4 ) <", "+a1 ( ( +a2 ) <", "+a1 ( ( ( +a2 ) ) <",
		"( +a1 ( -a ) <", "( +a1 ( -a ) +a2 <", "( +a1 ( -a ) ( +a2 ) <", "( +a1 ( -a < <", "( +a1 ( -a +a2 ) -a <", "( +a1 ( -a ( +a2 < ) <",
		"+a1 ( -a ( +a2 ) <", "+a1 ( -a ( +a2 -a ) <", "+a1 ( ( -a ) +a3 <", "+a1 ( ( -a ) ( +a3 < <",
		"( ( +a1 ) -a <", "( ( ( +a1 ) -a ) <", "( ( +a1 -a ) <", "( ( +a1 -a ) +a2 <", "( ( +a1 < +a2 ) <",
		"( +a1 ) ( +a2 < +b1 ( -a <", "+a1 +b2 ( +c3 -a ( +b4 -c ( +a5 ) -b ) +c6 <", "( +a1 ( +b1 ( +c1 < ) < ) <", ") < ( < )",
	} {
		p := both(t)
		for _, word := range strings.Fields(row) {
			p.do(word)
			meet(t, row+", at "+word, p.s, p.m, "a", "b", "c", "d")
		}
	}
}

// Every row of six calls of seven, and then all that is open taken back.
func TestP65EveryRow(t *testing.T) {
	words := []string{"+a1", "+a2", "-a", "+b1", "(", "<", ")"}
	count := 0
	var walk func(row []string)
	walk = func(row []string) {
		if len(row) < 6 {
			for _, word := range words {
				walk(append(slices.Clip(row), word))
			}
			return
		}
		count++
		p := both(t)
		for _, word := range row {
			p.do(word)
		}
		meet(t, strings.Join(row, " "), p.s, p.m, "a", "b")
		for p.m.shut(true) == api.OK {
			p.s.Rollback()
			meet(t, strings.Join(row, " ")+", taken back", p.s, p.m, "a", "b")
		}
	}
	walk(nil)
	if count != 7*7*7*7*7*7 {
		t.Errorf("%d rows: the test asks too little", count)
	}
}

// What is refused is neither seen now nor by a Rollback; what goes back makes room again.
func TestP65Refused(t *testing.T) {
	l := numbered(128, unit)
	s, m := made(t, l), modelOf(l)
	s.Checkpoint()
	m.checkpoint()
	if a, b, c := s.Put("z", unit), s.Put("", unit), s.Put("000", truth(2)); a != api.ErrStoreFull || b != api.ErrStoreKey || c != api.ErrStoreValue || s.Delete("z") {
		t.Error("a full store", a, b, c)
	}
	meet(t, "behind what was refused", s, m, "z")
	for i := range 100 {
		s.Delete(fmt.Sprintf("%03d", i))
		if e := s.Put(fmt.Sprintf("z%d", i), heavy(200)); e != api.OK {
			t.Errorf("Put %d: %v", i, e)
		}
	}
	if s.Len() != 128 || s.Weight() <= m.weight() {
		t.Error("Len, Weight", s.Len(), s.Weight())
	}
	if e, want := s.Rollback(), m.shut(true); e != want {
		t.Error("Rollback", e)
	}
	meet(t, "a Rollback of a full store", s, m, "z", "z1")
	if a, b := s.Put("z", unit), s.Put("100", heavy(2048)); a != api.ErrStoreFull || b != api.OK {
		t.Error("behind a Rollback", a, b)
	}
}

func TestP65Heaviest(t *testing.T) {
	l := append(numbered(15, heavy(2048)), api.Entry{Key: "x", Value: heavy(1986)})
	s, m := made(t, l), modelOf(l)
	s.Checkpoint()
	m.checkpoint()
	for i := range 15 {
		key := fmt.Sprintf("%03d", i)
		s.Put(key, unit)
		s.Checkpoint()
		if a, b := s.Put("y"+key, heavy(2043)), s.Put("y"+key, heavy(2042)); a != api.ErrStoreFull || b != api.OK || s.Commit() != api.OK {
			t.Error("there is room just where a value was made lighter", a, b)
		}
	}
	if s.Rollback() != api.OK || m.shut(true) != api.OK {
		t.Error("Rollback")
	}
	meet(t, "the heaviest", s, m, "y000")
	if s.Weight() != 32768 || s.Put("y", unit) != api.ErrStoreFull {
		t.Error("the weight is", s.Weight())
	}
}

func TestP65Deep(t *testing.T) {
	const count = 20000
	s := store.New()
	for i := range count {
		s.Put(fmt.Sprint(i%100), number(int64(i)))
		if n := s.Checkpoint(); n != i+1 {
			t.Fatalf("Checkpoint is %d", n)
		}
	}
	for i := count - 1; i >= 0; i-- {
		shut := s.Rollback
		if i%3 == 0 {
			shut = s.Commit
		}
		if e := shut(); e != api.OK || s.Open() != i {
			t.Fatalf("%v, %d are open", e, s.Open())
		}
		if v, ok := s.Get(fmt.Sprint(i % 100)); !ok || v.N != int64(i) && i%3 != 0 {
			t.Fatalf("%d: %v, %v", i, v, ok)
		}
	}
	// The second checkpoint went back to 0 and 1, and the first one let these stand.
	if v, _ := s.Get("0"); s.Open() != 0 || v.N != 0 || s.Len() != 2 {
		t.Error("at the end", v, s.Len())
	}
}

func TestP66Nil(t *testing.T) {
	var s *store.Store
	for _, key := range append(probes(), "a") {
		if v, ok := s.Get(key); ok || !zero(v) {
			t.Error("Get", v, ok)
		}
		if k, ok := s.After(key); ok || k != "" {
			t.Error("After", k, ok)
		}
		if s.Delete(key) {
			t.Error("Delete")
		}
		for _, v := range []api.Value{unit, number(1), truth(2), heavy(2049)} {
			if e := s.Put(key, v); e != api.ErrNil {
				t.Error("Put", e)
			}
		}
	}
	for range 2 {
		if a, b := s.Rollback(), s.Commit(); a != api.ErrNil || b != api.ErrNil {
			t.Error("Rollback, Commit", a, b)
		}
		if s.Checkpoint() != 0 || s.Open() != 0 || s.Len() != 0 || s.Weight() != 0 || len(s.Entries()) != 0 {
			t.Error("Checkpoint, Open, Len, Weight, Entries")
		}
	}
}

// A store that is made without New or From is none that calls gave; no call on it panics.
func TestR1Zero(t *testing.T) {
	s := &store.Store{}
	s.Checkpoint()
	s.Put("a", unit)
	s.Delete("a")
	s.Get("a")
	s.After("")
	s.Entries()
	s.Commit()
	s.Rollback()
	if s.Len() != 0 || s.Weight() != 0 {
		t.Error("Len, Weight", s.Len(), s.Weight())
	}
}

var some = rights()

// randomValue is a right one, light or heavy.
func randomValue(dice *rand.Rand) api.Value {
	if dice.Intn(3) == 0 {
		return heavy(1 + dice.Intn(2048))
	}
	return some[dice.Intn(len(some))]
}

// A long row of calls, now and then at a full store, held against the model behind each.
func TestFollowsTheModel(t *testing.T) {
	full, back := [3]int{}, 0
	for seed := range 60 {
		dice := rand.New(rand.NewSource(int64(seed)))
		s, m := store.New(), empty()
		span := []int{4, 30, 200}[seed%3] // few keys; heavy values; many keys
		for i := range 600 {
			key := fmt.Sprint(dice.Intn(span))
			var got, want any
			switch n := dice.Intn(20); {
			case n < 12:
				v := randomValue(dice)
				switch span {
				case 30:
					v = heavy(1000 + dice.Intn(1049))
				case 200:
					v = heavy(1 + dice.Intn(100))
				}
				got, want = s.Put(key, v), m.put(key, v)
				if want == api.ErrStoreFull {
					full[seed%3]++
				}
			case n < 13:
				got, want = s.Delete(key), m.remove(key)
			case n < 16:
				got, want = s.Checkpoint(), m.checkpoint()
			case n < 17:
				got, want = s.Rollback(), m.shut(true)
				back++
			default:
				got, want = s.Commit(), m.shut(false)
			}
			if got != want {
				t.Fatalf("%d, %d: %v, not %v", seed, i, got, want)
			}
			if i%20 == 19 {
				meet(t, fmt.Sprint(seed, ", ", i), s, m, key, "")
			}
		}
		for m.shut(true) == api.OK {
			s.Rollback()
			meet(t, fmt.Sprint(seed, ", taken back"), s, m)
		}
	}
	if full[1] < 1000 || full[2] < 100 || back < 500 {
		t.Errorf("%v times full, %d times back: the test asks too little", full, back)
	}
}

func TestFollowsAfterTellsTheKeys(t *testing.T) {
	dice := rand.New(rand.NewSource(8))
	for count := range 129 {
		s := store.New()
		for s.Len() < count {
			key := make([]byte, 1+dice.Intn(3))
			dice.Read(key)
			s.Put(string(key), unit)
		}
		var keys []string
		for key, ok := s.After(""); ok; key, ok = s.After(key) {
			keys = append(keys, key)
		}
		all := s.Entries()
		if len(all) != count || !slices.EqualFunc(all, keys, func(x api.Entry, key string) bool { return x.Key == key }) {
			t.Errorf("After tells %d keys of %d", len(keys), len(all))
		}
	}
}

// What a store tells hangs on its entries, not on how they came about.
func TestFollowsFromOfEntries(t *testing.T) {
	dice := rand.New(rand.NewSource(9))
	for range 200 {
		s := store.New()
		for range dice.Intn(300) {
			key := fmt.Sprint(dice.Intn(150))
			switch dice.Intn(6) {
			case 0:
				s.Delete(key)
			case 1:
				s.Checkpoint()
			case 2:
				s.Rollback()
			default:
				s.Put(key, randomValue(dice))
			}
		}
		for s.Commit() == api.OK {
		}
		l := s.Entries()
		again, m := made(t, l), modelOf(l)
		meet(t, "the store", s, m, "", "7")
		meet(t, "From of its Entries", again, m, "", "7")
		for range 40 {
			key, v := fmt.Sprint(dice.Intn(300)), randomValue(dice)
			want := m.put(key, v)
			if a, b := s.Put(key, v), again.Put(key, v); a != want || b != want {
				t.Fatalf("Put(%q): %v, %v, not %v", key, a, b, want)
			}
		}
		meet(t, "the store, gone on", s, m)
		meet(t, "From of its Entries, gone on", again, m)
	}
}

func TestR4StoresApart(t *testing.T) {
	l := numbered(5, list(number(1)))
	a, b := made(t, l), made(t, l)
	a.Checkpoint()
	a.Delete("001")
	a.Put("z", unit)
	meet(t, "the other one", b, modelOf(l), "z")
	b.Checkpoint()
	b.Put("000", text("b"))
	if a.Rollback() != api.OK || b.Open() != 1 {
		t.Error("Rollback")
	}
	meet(t, "the one, gone back", a, modelOf(l), "z")
	if v, _ := b.Get("000"); v.S != "b" {
		t.Error("the other one has gone back, too")
	}
}

// piece is some memory: a list with its spare room, or a text.
type piece struct{ from, to uintptr }

func listPiece[T any](l []T) []piece {
	if cap(l) == 0 {
		return nil
	}
	from := uintptr(unsafe.Pointer(unsafe.SliceData(l)))
	return []piece{{from, from + uintptr(cap(l))*unsafe.Sizeof(l[:1][0])}}
}

func textPiece(s string) []piece {
	if s == "" {
		return nil
	}
	from := uintptr(unsafe.Pointer(unsafe.StringData(s)))
	return []piece{{from, from + uintptr(len(s))}}
}

func pieces(v api.Value) []piece {
	out := slices.Concat(listPiece(v.L), listPiece(v.K), textPiece(v.S))
	for _, key := range v.K {
		out = append(out, textPiece(key)...)
	}
	for _, x := range v.L {
		out = append(out, pieces(x)...)
	}
	return out
}

func entryPieces(l []api.Entry) []piece {
	out := listPiece(l)
	for _, x := range l {
		out = append(out, slices.Concat(textPiece(x.Key), pieces(x.Value))...)
	}
	return out
}

// shared: does one of these pieces meet another one of them, or one of those that were given?
func shared(answer []piece, given ...[]piece) bool {
	for i, a := range answer {
		for _, b := range slices.Concat(answer[i+1:], slices.Concat(given...)) {
			if a.from < b.to && b.from < a.to {
				return true
			}
		}
	}
	return false
}

// rich is a value with lists and texts within one another, in memory of its own, with spare room.
func rich() api.Value {
	inner := list(text(strings.Clone("inner")))
	v := record("", number(1), inner, inner)
	v.K = []string{strings.Clone("one"), strings.Clone("three"), strings.Clone("two")}
	v.L = slices.Grow(v.L, 5)
	v.K = slices.Grow(v.K, 5)
	v.L[:4][3] = text("spare")
	v.K[:4][3] = "spare"
	return v
}

func untouched(v api.Value) bool {
	return same(v, rich()) && v.L[:4][3].S == "spare" && v.K[:4][3] == "spare"
}

// spoil writes into all that a value has, the bytes of its texts too, which must be no constants.
func spoil(v api.Value) {
	spoilText(v.S)
	for i, key := range v.K {
		spoilText(key)
		v.K[i] = strings.Clone("spoilt")
	}
	for i, x := range v.L {
		spoil(x)
		v.L[i] = text(strings.Clone("spoilt"))
	}
}

func spoilText(s string) {
	b := unsafe.Slice(unsafe.StringData(s), len(s))
	for i := range b {
		b[i] = '!'
	}
}

// What was handed in may be written into afterwards: the store keeps none of it. A checkpoint keeps none of it either.
func TestR3HandedIn(t *testing.T) {
	given, later := rich(), rich()
	entries := []api.Entry{{Key: strings.Clone("first"), Value: rich()}, {Key: strings.Clone("second"), Value: rich()}, {Key: "spare"}}
	s, e := store.From(entries[:2])
	if e != api.OK || entries[2].Key != "spare" || !untouched(entries[0].Value) || !untouched(entries[1].Value) {
		t.Fatal("From", e)
	}
	m := modelOf([]api.Entry{{Key: "first", Value: rich()}, {Key: "second", Value: rich()}, {Key: "third", Value: rich()}})
	key, again, gone := strings.Clone("third"), strings.Clone("third"), strings.Clone("first")
	s.Put(key, given)
	s.Checkpoint()
	s.Put(again, later)
	s.Delete(gone)
	if !untouched(given) || !untouched(later) || key != "third" || again != "third" || gone != "first" {
		t.Error("what was handed in was changed")
	}
	for _, x := range []string{key, again, gone, entries[0].Key, entries[1].Key} {
		spoilText(x)
	}
	for _, v := range []api.Value{given, later, entries[0].Value, entries[1].Value} {
		spoil(v)
	}
	m.checkpoint()
	m.remove("first")
	meet(t, "what was handed in is spoilt", s, m)
	s.Rollback()
	m.shut(true)
	meet(t, "what was handed in is spoilt, gone back", s, m)
	for _, x := range s.Entries() {
		if !s.Delete(x.Key) {
			t.Errorf("%q is not found", x.Key)
		}
	}
}

// What was answered may be written into: the store stays as it is. No two answers share memory.
func TestR3HandedOut(t *testing.T) {
	s := store.New()
	for _, key := range []string{"first", "second", "third"} {
		s.Put(key, rich())
	}
	s.Put("flat", text("flat"))
	m := modelOf([]api.Entry{{Key: "first", Value: rich()}, {Key: "flat", Value: text("flat")}, {Key: "second", Value: rich()}, {Key: "third", Value: rich()}})
	all, more := s.Entries(), s.Entries()
	a, _ := s.Get("first")
	b, _ := s.Get("first")
	flat, _ := s.Get("flat")
	next, _ := s.After("first")
	again, _ := s.After("first")
	answers := slices.Concat(entryPieces(all), entryPieces(more), pieces(a), pieces(b), pieces(flat), textPiece(next), textPiece(again))
	if shared(answers) {
		t.Error("two answers share memory")
	}
	spoil(a)
	spoil(flat)
	spoilText(next)
	for i, x := range all {
		spoilText(x.Key)
		spoil(x.Value)
		all[i] = api.Entry{}
	}
	_ = append(all[:0], make([]api.Entry, cap(all))...)
	meet(t, "what was answered is spoilt", s, m)
	if !same(b, rich()) || again != "flat" || len(more) != 4 || more[0].Key != "first" {
		t.Error("another answer is spoilt")
	}
}

// What goes to a checkpoint and comes back from it is handed out anew all the same.
func TestR3HandedOutBehindRollback(t *testing.T) {
	s := store.New()
	s.Put("k", rich())
	s.Checkpoint()
	before, _ := s.Get("k")
	s.Put("k", unit)
	s.Checkpoint()
	s.Delete("k")
	s.Commit()
	spoil(before)
	s.Rollback()
	after, ok := s.Get("k")
	if !ok || !same(after, rich()) {
		t.Error("what came back is spoilt")
	}
	spoil(after)
	if again, _ := s.Get("k"); !same(again, rich()) {
		t.Error("what was answered is the store's own")
	}
}

// grown is by how many bytes more is held in memory behind f.
func grown(f func()) int64 {
	var a, b runtime.MemStats
	runtime.GC()
	runtime.ReadMemStats(&a)
	f()
	runtime.GC()
	runtime.ReadMemStats(&b)
	return int64(b.HeapAlloc) - int64(a.HeapAlloc)
}

// However often keys come, change and go behind a checkpoint, no more is kept than what it must bring back.
func TestKeepsNoMore(t *testing.T) {
	l := numbered(10, heavy(2000))
	for what, change := range map[string]func(s *store.Store, i int){
		"one key":               func(s *store.Store, i int) { s.Put("000", heavy(1000+i%1000)) },
		"keys that come and go": func(s *store.Store, i int) { s.Put(fmt.Sprint("k", i), heavy(1000)); s.Delete(fmt.Sprint("k", i)) },
		"keys that are taken back": func(s *store.Store, i int) {
			s.Checkpoint()
			s.Put(fmt.Sprint("k", i), heavy(1000))
			s.Rollback()
		},
		"keys that go in a checkpoint within": func(s *store.Store, i int) {
			s.Put(fmt.Sprint("k", i), heavy(1000))
			s.Checkpoint()
			s.Delete(fmt.Sprint("k", i))
			s.Commit()
		},
		"keys that go behind a checkpoint within": func(s *store.Store, i int) {
			s.Checkpoint()
			s.Put(fmt.Sprint("k", i), heavy(1000))
			s.Commit()
			s.Delete(fmt.Sprint("k", i))
		},
	} {
		s, m := made(t, l), modelOf(l)
		s.Checkpoint()
		s.Checkpoint()
		more := grown(func() {
			for i := range 20000 {
				change(s, i)
			}
		})
		if more > 1<<19 {
			t.Errorf("%s: %d bytes more are held", what, more)
		}
		s.Commit()
		s.Rollback()
		meet(t, what, s, m, "k0", "k19999")
	}
}

// Once no checkpoint is open nothing is kept for one.
func TestKeepsNothingForClosed(t *testing.T) {
	s := store.New()
	for i := range 100 {
		s.Put(fmt.Sprint(i), heavy(300))
	}
	more := grown(func() {
		for i := range 3000 {
			s.Checkpoint()
			s.Put(fmt.Sprint(i%100), heavy(300+i%10))
		}
		for s.Open() > 0 {
			s.Commit()
		}
	})
	if more > 1<<18 {
		t.Errorf("%d bytes more are held", more)
	}
	runtime.KeepAlive(s)
}
