package table_test

import (
	"cmp"
	"fmt"
	"iter"
	"math"
	"math/rand"
	"slices"
	"testing"

	"scruple/table"
)

// told is a key with its thing, as a test tells it.
type told[K cmp.Ordered, V any] struct {
	key   K
	thing V
}

// gone is what a walk goes through, to its end.
func gone[K cmp.Ordered, V any](walk iter.Seq2[K, V]) []told[K, V] {
	var out []told[K, V]
	for k, v := range walk {
		out = append(out, told[K, V]{k, v})
	}
	return out
}

// filled is a table of keys, put in the order told, each with its place in it.
func filled[K cmp.Ordered](keys ...K) *table.Table[K, int] {
	t := table.New[K, int]()
	for i, k := range keys {
		t.Put(k, i)
	}
	return t
}

// model is a second reading of the chapter: a map, sorted whenever its order is asked for.
type model[K cmp.Ordered] map[K]int

func (m model[K]) rows() []told[K, int] {
	var out []told[K, int]
	for k, v := range m {
		out = append(out, told[K, int]{k, v})
	}
	slices.SortFunc(out, func(a, b told[K, int]) int { return cmp.Compare(a.key, b.key) })
	return out
}

// from is what From(k) must go through: of all, those that are not less.
func (m model[K]) from(k K) []told[K, int] {
	return slices.DeleteFunc(m.rows(), func(r told[K, int]) bool { return r.key < k })
}

// meet holds a table against the model, by every call that changes nothing, at every key of probes.
func meet[K cmp.Ordered](t *testing.T, what string, a *table.Table[K, int], m model[K], probes []K) {
	t.Helper()
	rows := m.rows()
	if a.Len() != len(rows) {
		t.Errorf("%s: Len is %d, not %d", what, a.Len(), len(rows))
	}
	if got := gone(a.All()); !slices.Equal(got, rows) {
		t.Errorf("%s: All goes through %v, not %v", what, got, rows)
	}
	for i := -2; i < len(rows)+2; i++ {
		var want told[K, int]
		in := i >= 0 && i < len(rows)
		if in {
			want = rows[i]
		}
		if k, v, ok := a.At(i); k != want.key || v != want.thing || ok != in {
			t.Errorf("%s: At(%d) is %v %v %v, not %v %v", what, i, k, v, ok, want, in)
		}
	}
	for _, k := range probes {
		thing, in := m[k]
		if v, ok := a.Get(k); v != thing || ok != in {
			t.Errorf("%s: Get(%v) is %v %v, not %v %v", what, k, v, ok, thing, in)
		}
		after := m.from(k)
		if i, ok := a.Find(k); i != len(rows)-len(after) || ok != in {
			t.Errorf("%s: Find(%v) is %v %v, not %v %v", what, k, i, ok, len(rows)-len(after), in)
		}
		if got := gone(a.From(k)); !slices.Equal(got, after) {
			t.Errorf("%s: From(%v) goes through %v, not %v", what, k, got, after)
		}
	}
}

// texts are probes of texts: the empty one, pieces of others, and bytes above 127, which make no rune.
func texts() []string {
	return []string{"", "\x00", "\x00\x00", "A", "Z", "_", "a", "a\x00", "aa", "ab", "b", "z", "\x7f", "\x80", "\xc3", "\xc3\xa9", "é", "é!", "\xe2\x82\xac", "\xff", "\xff\xff"}
}

// numbers are probes of numbers, below 0 too, with the least and the greatest.
func numbers() []int64 {
	return []int64{math.MinInt64, math.MinInt64 + 1, -1 << 32, -256, -255, -2, -1, 0, 1, 2, 255, 256, 1 << 32, math.MaxInt64 - 1, math.MaxInt64}
}

func TestExamples(t *testing.T) {
	a := table.New[string, int]()
	if a.Put("b", 1) || a.Put("a", 2) || !a.Put("b", 3) || a.Len() != 2 {
		t.Error("Put, Len")
	}
	if v, ok := a.Get("b"); v != 3 || !ok {
		t.Error("Get(b)", v, ok)
	}
	if v, ok := a.Get("c"); v != 0 || ok {
		t.Error("Get(c)", v, ok)
	}
	if k, v, ok := a.At(0); k != "a" || v != 2 || !ok {
		t.Error("At(0)", k, v, ok)
	}
	for _, i := range []int{2, -1} {
		if k, v, ok := a.At(i); k != "" || v != 0 || ok {
			t.Error("At", i, k, v, ok)
		}
	}
	for _, x := range []struct {
		key   string
		place int
		there bool
	}{{"b", 1, true}, {"aa", 1, false}, {"", 0, false}} {
		if i, ok := a.Find(x.key); i != x.place || ok != x.there {
			t.Errorf("Find(%q) is %d %v", x.key, i, ok)
		}
	}
	both := []told[string, int]{{"a", 2}, {"b", 3}}
	all := a.All()
	if got := gone(all); !slices.Equal(got, both) {
		t.Error("All", got)
	}
	if got := gone(a.From("aa")); !slices.Equal(got, both[1:]) {
		t.Error("From(aa)", got)
	}
	if all = a.All(); !a.Delete("a") {
		t.Error("Delete(a)")
	}
	if got := gone(all); !slices.Equal(got, both) {
		t.Error("All behind Delete", got)
	}
}

func TestP51NewLenGet(t *testing.T) {
	meet(t, "no texts", table.New[string, int](), model[string]{}, texts())
	meet(t, "no numbers", table.New[int64, int](), model[int64]{}, numbers())
	a, m := table.New[string, int](), model[string]{}
	for i, k := range []string{"b", "é", "\xff", "a"} { // none of them is empty
		a.Put(k, i+1)
		m[k] = i + 1
		meet(t, "texts", a, m, texts())
	}
	a.Put("", 9) // one is empty
	m[""] = 9
	meet(t, "an empty text", a, m, texts())
	if table.New[string, int]() == table.New[string, int]() {
		t.Error("two tables are one")
	}
	if b := table.New[string, int](); b.Len() != 0 {
		t.Error("a new table has keys")
	}
}

// A thing that is zero is one all the same.
func TestP51GetOfZeroThings(t *testing.T) {
	a := table.New[int, int]()
	if a.Put(0, 0) || !a.Put(0, 0) || a.Len() != 1 {
		t.Error("Put of zero")
	}
	if v, ok := a.Get(0); v != 0 || !ok {
		t.Error("Get", v, ok)
	}
	if v, ok := a.Get(1); v != 0 || ok {
		t.Error("Get of none", v, ok)
	}
	if !a.Delete(0) || a.Delete(0) {
		t.Error("Delete of zero")
	}
}

func TestP52PutAtEachPlace(t *testing.T) {
	for i, k := range []string{"a", "c", "e", "g"} { // ahead of all, between, behind all
		a, m := filled("b", "d", "f"), model[string]{"b": 0, "d": 1, "f": 2}
		if a.Put(k, 10+i) {
			t.Errorf("Put(%s) says that it was there", k)
		}
		m[k] = 10 + i
		meet(t, "Put of "+k, a, m, []string{"", "a", "b", "c", "d", "e", "f", "g", "h"})
	}
	for i, k := range []string{"b", "d", "f"} {
		a, m := filled("b", "d", "f"), model[string]{"b": 0, "d": 1, "f": 2}
		if !a.Put(k, 20+i) || !a.Put(k, 30+i) {
			t.Errorf("Put(%s) says that it was not there", k)
		}
		m[k] = 30 + i
		meet(t, "Put over "+k, a, m, []string{"", "a", "b", "c", "d", "e", "f", "g", "h"})
	}
}

func TestP52Delete(t *testing.T) {
	probes := []string{"", "a", "b", "c", "d", "e", "f", "g"}
	for _, k := range probes {
		a, m := filled("b", "d", "f"), model[string]{"b": 0, "d": 1, "f": 2}
		_, there := m[k]
		if a.Delete(k) != there {
			t.Errorf("Delete(%q) is not %v", k, there)
		}
		delete(m, k)
		meet(t, "Delete of "+k, a, m, probes)
		if a.Delete(k) { // it was there
			t.Errorf("Delete(%q) is true again", k)
		}
		meet(t, "again Delete of "+k, a, m, probes)
		if a.Put(k, 7) {
			t.Errorf("Put(%q) behind Delete says that it was there", k)
		}
		m[k] = 7
		meet(t, "Put behind Delete of "+k, a, m, probes)
	}
	a := table.New[string, int]()
	if a.Delete("") || a.Delete("a") {
		t.Error("Delete of a table without keys")
	}
	a.Put("a", 1)
	if !a.Delete("a") || a.Len() != 0 || len(gone(a.All())) != 0 {
		t.Error("Delete of the only key")
	}
}

// Things are kept, and handed out, as they are: a list and a pointer stay the same one.
func TestP52ThingsAsTheyAre(t *testing.T) {
	lists := table.New[int, []byte]()
	l := make([]byte, 2, 8)
	lists.Put(1, l)
	lists.Put(0, nil)
	lists.Put(2, []byte{})
	l[0] = 5
	got, ok := lists.Get(1)
	if !ok || &got[0] != &l[0] || cap(got) != cap(l) || got[0] != 5 {
		t.Error("Get of a list", got, ok)
	}
	_, at, _ := lists.At(1)
	_, copied, _ := lists.Copy().At(1)
	if &at[0] != &l[0] || &copied[0] != &l[0] {
		t.Error("At of a list")
	}
	for k, v := range lists.All() {
		if k == 1 && &v[0] != &l[0] {
			t.Error("All of a list")
		}
	}
	if none, ok := lists.Get(0); none != nil || !ok {
		t.Error("Get of a nil list", none, ok)
	}
	if empty, ok := lists.Get(2); empty == nil || !ok {
		t.Error("Get of an empty list", empty, ok)
	}
	type node struct{ n int }
	a, b := &node{1}, &node{1}
	nodes := table.New[string, *node]()
	nodes.Put("a", a)
	nodes.Put("b", b)
	if x, _ := nodes.Get("a"); x != a {
		t.Error("Get of a pointer")
	}
	if x, ok := nodes.Get("c"); x != nil || ok {
		t.Error("Get of no pointer")
	}
	nodes.Put("a", b)
	if x, _ := nodes.Get("a"); x != b || a.n != 1 {
		t.Error("Put over a pointer")
	}
}

func TestP53AtOfEveryNumber(t *testing.T) {
	for count := range 9 {
		a := table.New[int64, string]()
		for i := count; i > 0; i-- {
			a.Put(int64(i*10), fmt.Sprint(i*10))
		}
		for i := range count {
			if k, v, ok := a.At(i); k != int64(i+1)*10 || v != fmt.Sprint(k) || !ok {
				t.Errorf("At(%d) of %d is %d %q %v", i, count, k, v, ok)
			}
		}
		for _, i := range []int{-1, -2, count, count + 1, -count, 1 << 40, math.MinInt, math.MinInt + 1, math.MaxInt, math.MaxInt - 1} {
			if i == 0 && count == 0 || i < 0 || i >= count {
				if k, v, ok := a.At(i); k != 0 || v != "" || ok {
					t.Errorf("At(%d) of %d is %d %q %v", i, count, k, v, ok)
				}
			}
		}
	}
}

func TestP53FindAheadBetweenBehind(t *testing.T) {
	for count := range 40 {
		a := table.New[int, bool]()
		for i := range count {
			a.Put(2*i+1, true)
		}
		for k := -2; k < 2*count+3; k++ {
			less := min(max(k/2, 0), count)
			there := k > 0 && k%2 == 1 && k < 2*count
			if i, ok := a.Find(k); i != less || ok != there {
				t.Errorf("Find(%d) of %d is %d %v, not %d %v", k, count, i, ok, less, there)
			}
			if v, ok := a.Get(k); v != there || ok != there {
				t.Errorf("Get(%d) of %d is %v %v", k, count, v, ok)
			}
		}
		for _, k := range []int{math.MinInt, math.MaxInt} {
			if i, ok := a.Find(k); i != count && i != 0 || ok || (i == 0) != (count == 0 || k < 0) {
				t.Errorf("Find(%d) of %d is %d %v", k, count, i, ok)
			}
		}
	}
}

func TestP53BytewiseOrder(t *testing.T) {
	a := table.New[string, int]()
	keys := texts()
	m := model[string]{}
	for i := len(keys) - 1; i >= 0; i-- {
		a.Put(keys[i], i)
		m[keys[i]] = i
	}
	meet(t, "texts", a, m, texts())
	for i := 1; i < a.Len(); i++ { // held byte by byte, with no order of Go's between
		k, _, _ := a.At(i - 1)
		n, _, _ := a.At(i)
		if slices.Compare([]byte(k), []byte(n)) >= 0 {
			t.Errorf("%q stands ahead of %q", k, n)
		}
	}
	b, mb := table.New[int64, int](), model[int64]{}
	for i, k := range numbers() {
		b.Put(k, i)
		mb[k] = i
		meet(t, "numbers", b, mb, numbers())
	}
	if k, _, _ := b.At(0); k != math.MinInt64 {
		t.Error("the least is", k)
	}
	if k, _, _ := b.At(b.Len() - 1); k != math.MaxInt64 {
		t.Error("the greatest is", k)
	}
}

func TestP53OtherKeys(t *testing.T) {
	small := filled[uint8](255, 0, 128, 127)
	meet(t, "small numbers", small, model[uint8]{255: 0, 0: 1, 128: 2, 127: 3}, []uint8{0, 1, 126, 127, 128, 129, 254, 255})
	below := filled[int8](-128, 127, 0, -1)
	meet(t, "small numbers below 0", below, model[int8]{-128: 0, 127: 1, 0: 2, -1: 3}, []int8{-128, -127, -2, -1, 0, 1, 126, 127})
	parts := filled(0.5, -0.5, math.Inf(1), math.Inf(-1), 0)
	meet(t, "broken numbers", parts, model[float64]{0.5: 0, -0.5: 1, math.Inf(1): 2, math.Inf(-1): 3, 0: 4},
		[]float64{math.Inf(-1), -math.MaxFloat64, -0.5, 0, math.SmallestNonzeroFloat64, 0.5, math.MaxFloat64, math.Inf(1)})
	type word string
	words := filled[word]("b", "a")
	meet(t, "words", words, model[word]{"b": 0, "a": 1}, []word{"", "a", "aa", "b", "c"})
}

// left goes through a walk and leaves it behind so many keys.
func left[K cmp.Ordered, V any](walk iter.Seq2[K, V], count int) []told[K, V] {
	var out []told[K, V]
	for k, v := range walk {
		if len(out) == count {
			break
		}
		out = append(out, told[K, V]{k, v})
	}
	return out
}

func TestP54LeftEarlyAndAgain(t *testing.T) {
	a := filled("c", "a", "e", "g")
	rows := model[string]{"c": 0, "a": 1, "e": 2, "g": 3}.rows()
	all, from := a.All(), a.From("b")
	for count := range 6 {
		n := min(count, 4)
		if got := left(all, count); !slices.Equal(got, rows[:n]) {
			t.Errorf("All left behind %d: %v", count, got)
		}
		n = min(count, 3)
		if got := left(from, count); !slices.Equal(got, rows[1:1+n]) {
			t.Errorf("From left behind %d: %v", count, got)
		}
		if got := gone(all); !slices.Equal(got, rows) {
			t.Errorf("All again: %v", got)
		}
		if got := gone(from); !slices.Equal(got, rows[1:]) {
			t.Errorf("From again: %v", got)
		}
	}
	calls := 0
	all(func(string, int) bool { calls++; return false })
	if calls != 1 {
		t.Error("a walk that is left goes on", calls)
	}
}

func TestP54WithinOneAnother(t *testing.T) {
	a := filled(3, 1, 2)
	all := a.All()
	var got []int
	for k := range all {
		for n := range all { // the same walk within itself
			got = append(got, k*10+n)
		}
		for n := range a.From(k) {
			got = append(got, k*100+n)
		}
	}
	want := []int{11, 12, 13, 101, 102, 103, 21, 22, 23, 202, 203, 31, 32, 33, 303}
	if !slices.Equal(got, want) {
		t.Error(got)
	}
}

func TestP54From(t *testing.T) {
	a := filled("b", "d", "f")
	for _, x := range []struct{ key, keys string }{
		{"", "bdf"}, {"a", "bdf"}, {"b", "bdf"}, {"b\x00", "df"}, {"c", "df"}, {"d", "df"}, {"e", "f"}, {"f", "f"}, {"f\x00", ""}, {"g", ""}, {"\xff", ""},
	} {
		got := ""
		for k := range a.From(x.key) {
			got += k
		}
		if got != x.keys {
			t.Errorf("From(%q) goes through %q, not %q", x.key, got, x.keys)
		}
	}
}

// What a walk goes through is the table as it was when the walk was asked for, whatever is done to it behind that.
func TestP54AsItWasAsked(t *testing.T) {
	changes := []struct {
		what string
		do   func(a *table.Table[int, int])
	}{
		{"put ahead", func(a *table.Table[int, int]) { a.Put(0, 99) }},
		{"put between", func(a *table.Table[int, int]) { a.Put(15, 99) }},
		{"put behind", func(a *table.Table[int, int]) { a.Put(99, 99) }},
		{"change the first", func(a *table.Table[int, int]) { a.Put(10, 99) }},
		{"change the last", func(a *table.Table[int, int]) { a.Put(30, 99) }},
		{"delete the first", func(a *table.Table[int, int]) { a.Delete(10) }},
		{"delete one between", func(a *table.Table[int, int]) { a.Delete(20) }},
		{"delete the last", func(a *table.Table[int, int]) { a.Delete(30) }},
		{"delete all, put others", func(a *table.Table[int, int]) {
			for k := range a.All() {
				a.Delete(k)
			}
			for k := range 20 {
				a.Put(k, 99)
			}
		}},
	}
	rows := []told[int, int]{{10, 0}, {20, 1}, {30, 2}}
	for _, c := range changes {
		a := filled(10, 20, 30)
		all, from := a.All(), a.From(20) // changed behind the asking, ahead of the going
		c.do(a)
		if got := gone(all); !slices.Equal(got, rows) {
			t.Errorf("%s: All goes through %v", c.what, got)
		}
		if got := gone(from); !slices.Equal(got, rows[1:]) {
			t.Errorf("%s: From goes through %v", c.what, got)
		}
		for place := range rows { // changed while one goes, at each place
			b := filled(10, 20, 30)
			var got []told[int, int]
			walk := b.All()
			for k, v := range walk {
				got = append(got, told[int, int]{k, v})
				if len(got) == place+1 {
					c.do(b)
				}
			}
			if !slices.Equal(got, rows) || !slices.Equal(gone(walk), rows) {
				t.Errorf("%s at %d: All goes through %v, then %v", c.what, place, got, gone(walk))
			}
			if after := gone(b.All()); !slices.Equal(after, gone(a.All())) {
				t.Errorf("%s at %d: the table has %v, not %v", c.what, place, after, gone(a.All()))
			}
		}
	}
}

// A walk of a table without keys stays one of none, and spare room that deleting leaves is not seen.
func TestP54AsItWasAskedOfNone(t *testing.T) {
	a := table.New[int, int]()
	all, from := a.All(), a.From(-5)
	a.Put(1, 1)
	a.Put(-5, 1)
	if len(gone(all)) != 0 || len(gone(from)) != 0 {
		t.Error("a walk of none goes through what was put later")
	}
	b := filled(1, 2, 3, 4)
	b.Delete(4)
	b.Delete(3)
	all = b.All()
	from = b.From(3)
	b.Put(3, 33)
	b.Put(4, 44)
	if got := gone(all); !slices.Equal(got, []told[int, int]{{1, 0}, {2, 1}}) {
		t.Error("All", got)
	}
	if got := gone(from); len(got) != 0 {
		t.Error("From", got)
	}
	if got := gone(b.All()); !slices.Equal(got, []told[int, int]{{1, 0}, {2, 1}, {3, 33}, {4, 44}}) {
		t.Error("All of now", got)
	}
}

func TestP55CopyGoesItsOwnWay(t *testing.T) {
	probes := []int{-1, 0, 1, 2, 3, 4, 5, 6, 7}
	for count := range 5 {
		m := model[int]{}
		var keys []int
		for i := range count {
			keys = append(keys, 2*i)
			m[2*i] = i
		}
		for _, k := range probes {
			for _, there := range []bool{true, false} { // the one is changed, or the other
				a := filled(keys...)
				b := a.Copy()
				if a == b {
					t.Fatal("Copy is the table itself")
				}
				meet(t, "copy", b, m, probes)
				done, kept := a, b
				if there {
					done, kept = b, a
				}
				done.Put(k, 77)
				meet(t, fmt.Sprint("kept at Put of ", k), kept, m, probes)
				done.Delete(k)
				meet(t, fmt.Sprint("kept at Delete of ", k), kept, m, probes)
				for x := range done.All() {
					done.Delete(x)
				}
				meet(t, "kept at Delete of all", kept, m, probes)
				kept.Put(k, 78)
				if done.Len() != 0 {
					t.Error("what is put into the one is seen in the other")
				}
			}
		}
	}
}

// Both put behind the last key: spare room must not be one.
func TestP55CopySpareRoom(t *testing.T) {
	for count := range 70 {
		a := table.New[int, int]()
		for i := range count {
			a.Put(i, i)
		}
		b := a.Copy()
		c := b.Copy()
		a.Put(1000, 1)
		b.Put(1000, 2)
		c.Put(1000, 3)
		b.Put(1001, 4)
		for i, x := range []*table.Table[int, int]{a, b, c} {
			if v, ok := x.Get(1000); v != i+1 || !ok {
				t.Errorf("of %d: the table %d has %d %v", count, i, v, ok)
			}
		}
		if a.Len() != count+1 || b.Len() != count+2 || c.Len() != count+1 {
			t.Error("Len", a.Len(), b.Len(), c.Len())
		}
	}
}

func TestP55NilTable(t *testing.T) {
	var a *table.Table[string, int]
	for range 2 {
		if a.Put("a", 1) || a.Put("", 1) || a.Delete("a") || a.Delete("") {
			t.Error("Put, Delete")
		}
		if a.Len() != 0 || a.Copy() != nil {
			t.Error("Len, Copy")
		}
		for _, k := range texts() {
			if v, ok := a.Get(k); v != 0 || ok {
				t.Error("Get", v, ok)
			}
			if i, ok := a.Find(k); i != 0 || ok {
				t.Error("Find", i, ok)
			}
			if a.From(k) == nil || len(gone(a.From(k))) != 0 {
				t.Error("From goes through something")
			}
		}
		for _, i := range []int{math.MinInt, -1, 0, 1, math.MaxInt} {
			if k, v, ok := a.At(i); k != "" || v != 0 || ok {
				t.Error("At", k, v, ok)
			}
		}
		if a.All() == nil || len(gone(a.All())) != 0 {
			t.Error("All goes through something")
		}
	}
}

// orders calls do with every order of keys.
func orders(keys []string, do func([]string)) {
	if len(keys) == 0 {
		do(nil)
	}
	for i, k := range keys {
		orders(slices.Concat(keys[:i], keys[i+1:]), func(rest []string) { do(append([]string{k}, rest...)) })
	}
}

func TestP56AnyOrderOfPutting(t *testing.T) {
	keys := []string{"", "a", "a\x00", "b", "\x80", "\xff"}
	m := model[string]{}
	for i, k := range keys {
		m[k] = i
	}
	seen := 0
	orders(keys, func(order []string) {
		seen++
		a := table.New[string, int]()
		for _, k := range order {
			a.Put(k, m[k])
		}
		b := table.New[string, int]() // put over and deleted between
		for i, k := range order {
			b.Put(k, -1)
			b.Put("zz", -1)
			if i%2 == 0 {
				b.Delete(k)
			}
			b.Put(k, m[k])
			b.Delete("zz")
		}
		meet(t, fmt.Sprintf("%q", order), a, m, keys)
		meet(t, fmt.Sprintf("%q, twice", order), b, m, keys)
	})
	if seen != 720 {
		t.Error("the test asks too little", seen)
	}
}

func TestP56FindOfAtAndAllOfFrom(t *testing.T) {
	source := rand.New(rand.NewSource(5))
	for count := range 60 {
		a := table.New[int16, int]()
		for range count {
			a.Put(int16(source.Intn(1<<16)-1<<15), source.Int())
		}
		for i := range a.Len() {
			k, v, ok := a.At(i)
			if place, there := a.Find(k); place != i || !there || !ok {
				t.Errorf("Find of At(%d) is %d %v", i, place, there)
			}
			if x, there := a.Get(k); x != v || !there {
				t.Error("Get of At", x, v, there)
			}
		}
		least, _, _ := a.At(0)
		if !slices.Equal(gone(a.All()), gone(a.From(least))) || len(gone(a.All())) != a.Len() {
			t.Error("All is not From of the least key")
		}
	}
}

// A long row of calls of all kinds, held against the model behind each of them.
func TestP56RowsOfCalls(t *testing.T) {
	source := rand.New(rand.NewSource(56))
	put, over, gone, none := 0, 0, 0, 0
	for range 60 {
		a, m := table.New[int, int](), model[int]{}
		var probes []int
		for k := -2; k < 22; k++ {
			probes = append(probes, k)
		}
		for range 120 {
			k := source.Intn(20)
			_, there := m[k]
			if source.Intn(5) < 3 {
				v := source.Intn(1000)
				if a.Put(k, v) != there {
					t.Fatal("Put", k, there)
				}
				m[k] = v
				put++
				if there {
					over++
				}
			} else {
				if a.Delete(k) != there {
					t.Fatal("Delete", k, there)
				}
				delete(m, k)
				gone++
				if !there {
					none++
				}
			}
			if source.Intn(10) == 0 {
				a = a.Copy()
			}
			meet(t, "row", a, m, probes)
		}
	}
	if put-over < 500 || over < 500 || gone-none < 500 || none < 500 {
		t.Error("the test asks too little", put, over, gone, none)
	}
}

func TestOtherThings(t *testing.T) {
	type place struct {
		name string
		at   [2]int
	}
	a := table.New[string, place]()
	a.Put("x", place{"x", [2]int{1, 2}})
	if p, ok := a.Get("x"); p != (place{"x", [2]int{1, 2}}) || !ok {
		t.Error("a struct", p, ok)
	}
	if _, p, ok := a.At(1); p != (place{}) || ok {
		t.Error("no struct", p, ok)
	}
	made := table.New[int, func() int]()
	made.Put(1, func() int { return 41 })
	if f, ok := made.Get(1); !ok || f() != 41 {
		t.Error("a function")
	}
	if f, ok := made.Get(2); f != nil || ok {
		t.Error("no function")
	}
	tables := table.New[int, *table.Table[string, bool]]()
	inner := table.New[string, bool]()
	tables.Put(1, inner)
	inner.Put("a", true)
	if x, _ := tables.Get(1); x != inner || x.Len() != 1 {
		t.Error("a table of tables")
	}
	nothing := table.New[string, struct{}]()
	if nothing.Put("a", struct{}{}) || !nothing.Put("a", struct{}{}) || nothing.Len() != 1 {
		t.Error("things without bytes")
	}
	whatever := table.New[uint64, any]()
	whatever.Put(math.MaxUint64, nil)
	whatever.Put(0, "text")
	if x, ok := whatever.Get(math.MaxUint64); x != nil || !ok {
		t.Error("a thing that is nil", x, ok)
	}
	if k, x, ok := whatever.At(0); k != 0 || x != "text" || !ok {
		t.Error("anything", k, x, ok)
	}
}

// Keys that are not the same as themselves are not meant, but no call panics or goes on for ever at them.
func TestR1KeysThatAreNot(t *testing.T) {
	a := table.New[float64, int]()
	for i, k := range []float64{1, math.NaN(), 2, math.NaN(), 0} {
		a.Put(k, i)
		a.Get(k)
		a.Find(math.NaN())
		gone(a.All())
		gone(a.From(math.NaN()))
		a.Copy()
		a.Delete(math.NaN())
		a.Delete(k)
	}
}

func TestR4TablesOfTheirOwn(t *testing.T) {
	a, b := filled("a"), filled("b")
	a.Put("c", 5)
	b.Delete("b")
	if a.Len() != 2 || b.Len() != 0 {
		t.Error("two tables are not apart", a.Len(), b.Len())
	}
}

// A table of many keys, put falling and taken away from within, stays right.
func TestManyKeys(t *testing.T) {
	const count = 20000
	a := table.New[int, int]()
	for i := range count {
		a.Put(count-i, i)
	}
	if a.Len() != count {
		t.Fatal("Len", a.Len())
	}
	for k := 2; k <= count; k += 2 {
		if !a.Delete(k) {
			t.Fatal("Delete", k)
		}
	}
	next := 1
	for k, v := range a.All() {
		if k != next || v != count-k {
			t.Fatal("All", k, v)
		}
		next += 2
	}
	if next != count+1 {
		t.Error("All ends at", next)
	}
}
