package visit_test

import (
	"strings"
	"testing"

	"scruple/api"
	"scruple/store"
	"scruple/value"
	"scruple/visit"
)

func text(s string) api.Value { return api.Value{Kind: api.Bytes, S: s} }

func list(l ...api.Value) api.Value { return api.Value{Kind: api.Array, L: l} }

// filled has a, bb and a key of as many bytes as one may have.
func filled(t *testing.T) *store.Store {
	t.Helper()
	s, e := store.From([]api.Entry{{Key: "a"}, {Key: "bb", Value: list(text("xyz"), api.Value{})}, {Key: strings.Repeat("k", 32), Value: text("")}})
	if e != api.OK {
		t.Fatalf("store.From: %d", e)
	}
	return s
}

// keys are a store's.
func keys(s *store.Store) string {
	var out []string
	for _, x := range s.Entries() {
		out = append(out, x.Key)
	}
	return strings.Join(out, " ")
}

func TestWeight(t *testing.T) {
	one := api.Value{Kind: api.Int, N: 1}
	for _, row := range []struct {
		op    int
		taken []api.Value
		want  int
	}{
		{api.OpArray, nil, 0},
		{api.OpAdd, []api.Value{one, one}, 2},
		{api.OpEq, []api.Value{text("abc"), list(one, text("a"))}, 4 + 4},
		{api.OpDigest, []api.Value{text("bb")}, 3},
		{api.OpLoad, []api.Value{text("a")}, 2 + 1},
		{api.OpLoad, []api.Value{text("bb")}, 3 + 6},
		{api.OpLoad, []api.Value{text("b")}, 2},
		{api.OpLoad, []api.Value{text("")}, 1},
		{api.OpLoad, []api.Value{text(strings.Repeat("k", 33))}, 34},
		{api.OpLoad, []api.Value{list(text("bb"))}, 4},
		{api.OpSave, []api.Value{text("bb"), text("bb")}, 6},
		{api.OpDrop, []api.Value{text("bb")}, 3},
		{api.OpAfter, []api.Value{text("bb")}, 3},
	} {
		if got := visit.Weight(row.op, row.taken, filled(t)); got != row.want {
			t.Errorf("Weight(%d, %s) is %d, want %d", row.op, value.Print(list(row.taken...)), got, row.want)
		}
	}
}

func TestDo(t *testing.T) {
	all := "a bb " + strings.Repeat("k", 32)
	for _, row := range []struct {
		op   int
		key  api.Value
		want string // of what it gives; of a trap empty
		trap int
		left string // keys
	}{
		{api.OpLoad, text("a"), "unit", 0, all},
		{api.OpLoad, text("bb"), `["xyz", unit]`, 0, all},
		{api.OpLoad, text("b"), "unit", 0, all},
		{api.OpLoad, text(strings.Repeat("k", 32)), `""`, 0, all},
		{api.OpSave, text("bb"), "unit", 0, all},
		{api.OpSave, text("b"), "unit", 0, "a b bb " + strings.Repeat("k", 32)},
		{api.OpDrop, text("a"), "true", 0, all[2:]},
		{api.OpDrop, text("b"), "false", 0, all},
		{api.OpAfter, text(""), `"a"`, 0, all},
		{api.OpAfter, text("a"), `"bb"`, 0, all},
		{api.OpAfter, text(strings.Repeat("k", 32)), "unit", 0, all},
		{api.OpLoad, text(""), "", api.TrapStore, all},
		{api.OpSave, text(""), "", api.TrapStore, all},
		{api.OpDrop, text(""), "", api.TrapStore, all},
		{api.OpLoad, text(strings.Repeat("k", 33)), "", api.TrapStore, all},
		{api.OpSave, text(strings.Repeat("k", 33)), "", api.TrapStore, all},
		{api.OpDrop, text(strings.Repeat("k", 33)), "", api.TrapStore, all},
		{api.OpAfter, text(strings.Repeat("k", 33)), "", api.TrapStore, all},
		{api.OpLoad, list(text("a")), "", api.TrapType, all},
		{api.OpSave, api.Value{}, "", api.TrapType, all},
		{api.OpDrop, api.Value{Kind: api.Int}, "", api.TrapType, all},
		{api.OpAfter, api.Value{Kind: api.Record}, "", api.TrapType, all},
	} {
		s := filled(t)
		v, trap := visit.Do(row.op, []api.Value{row.key, text("new")}, s)
		got := value.Print(v)
		if trap != 0 && v.Kind == api.Unit {
			got = ""
		}
		if got != row.want || trap != row.trap || keys(s) != row.left {
			t.Errorf("Do(%d, %s) is %s, %d; want %s, %d; the keys are %s", row.op, value.Print(row.key), got, trap, row.want, row.trap, keys(s))
		}
	}
}

// What the store refuses is a trap.
func TestDoFull(t *testing.T) {
	s := store.New()
	for i := range 16 {
		s.Put(string(rune('a'+i)), text(strings.Repeat("x", 2044)))
	}
	if _, trap := visit.Do(api.OpSave, []api.Value{text("z"), text(strings.Repeat("x", 100))}, s); trap != api.TrapStore || s.Len() != 16 {
		t.Errorf("save into a full store: trap %d, %d entries", trap, s.Len())
	}
	if v, trap := visit.Do(api.OpSave, []api.Value{text("a"), text("y")}, s); trap != 0 || v.Kind != api.Unit {
		t.Errorf("save in a place: %v, trap %d", v, trap)
	}
	if v, _ := s.Get("a"); v.S != "y" {
		t.Errorf("a is %.10s", v.S)
	}
}
