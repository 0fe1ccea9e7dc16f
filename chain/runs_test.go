package chain_test

import (
	"fmt"
	"math/rand"
	"reflect"
	"slices"
	"strings"
	"sync"
	"testing"
	"unsafe"

	"scruple/api"
	"scruple/chain"
	"scruple/compile"
	"scruple/eval"
	"scruple/module"
	"scruple/state"
	"scruple/store"
)

// begun is a chain of random entries, and its model.
func begun(t *testing.T, dice *rand.Rand) pair {
	t.Helper()
	l := entriesOf(dice)
	return pair{from(t, l), modelOf(l)}
}

// meet holds all that a chain tells against the model.
func meet(t *testing.T, p pair) {
	t.Helper()
	if got, want := p.c.Modules(), slices.Sorted(slices.Values(p.m.names)); !slices.Equal(got, want) {
		t.Fatalf("P22.4: the modules are %q, want %q", got, want)
	}
	for _, name := range p.m.names[max(0, len(p.m.names)-2):] {
		if m, e := p.c.Module(name); e != api.OK || !reflect.DeepEqual(m, p.m.modules[name]) {
			t.Fatalf("P22.4: Module(%q): %d, %v, want %v", name, e, m, p.m.modules[name])
		}
	}
	if got, want := entriesTold(p.c.Entries()), entriesTold(p.m.entries); got != want {
		t.Fatalf("P22.2: the entries are %.300s, want %.300s", got, want)
	}
	if p.c.Digest() != digestOf(t, p.m.entries) {
		t.Fatal("P22.4: the digest is another one")
	}
}

// TestP222Random: random acts come to what the model says, one behind the other.
func TestP222Random(t *testing.T) {
	dice := rand.New(rand.NewSource(2201))
	seen := map[string]int{}
	for range 50 {
		p := begun(t, dice)
		for _, a := range actsOf(dice, 60) {
			want := p.m.do(a)
			r := p.c.Do(a)
			if told(r) != told(want) || r.Digest != digestOf(t, p.m.entries) {
				t.Fatalf("P22.2: %s: %s, want %s", brief(a), told(r), told(want))
			}
			meet(t, p)
			end := fmt.Sprintf("%d %d %d", int(r.Code), r.Outcome.Kind, r.Outcome.Trap)
			if seen[end]++; a.Kind != api.ActCall {
				seen[fmt.Sprint("deployed ", int(r.Code))]++
			}
		}
	}
	for _, end := range strings.Split("0 1 0|0 2 1|0 2 3|0 2 4|0 2 5|0 2 6|0 2 7|0 2 8|0 2 9|0 3 0|2 0 0|140 0 0|141 0 0|220 0 0|221 0 0|222 0 0|223 0 0|224 0 0|deployed 0|deployed 170", "|") {
		if seen[end] == 0 {
			t.Errorf("no act ended so: %s (%v)", end, seen)
		}
	}
}

// TestP223Random: All is Do of each, however the acts are cut.
func TestP223Random(t *testing.T) {
	dice := rand.New(rand.NewSource(2202))
	for range 30 {
		entries := entriesOf(dice)
		acts := actsOf(dice, 60)
		c, d := from(t, entries), from(t, entries)
		cut := dice.Intn(len(acts) + 1)
		l := slices.Concat(c.All(acts[:cut]), c.All(acts[cut:]))
		if len(l) != len(acts) {
			t.Fatalf("P22.3: %d receipts of %d acts", len(l), len(acts))
		}
		for i, a := range acts {
			if r := d.Do(a); !reflect.DeepEqual(r, l[i]) {
				t.Fatalf("P22.3: act %d: %s, by Do %s", i, told(l[i]), told(r))
			}
		}
		if entriesTold(c.Entries()) != entriesTold(d.Entries()) || !slices.Equal(c.Modules(), d.Modules()) || c.Digest() != d.Digest() {
			t.Fatal("P22.3: the chains are unlike")
		}
	}
}

// entryError is vm's error for eval's.
func entryError(e api.Errno) api.Errno {
	switch e {
	case api.ErrEvalEntry:
		return api.ErrVmEntry
	case api.ErrEvalArgs:
		return api.ErrVmArgs
	}
	return e
}

// TestT3Sources: a call of what was deployed as a source comes to what its tree comes to, on a store with the chain's
// entries: the same outcome, the same gas; the same store, if it has returned.
func TestT3Sources(t *testing.T) {
	dice := rand.New(rand.NewSource(2203))
	seen := map[int]int{}
	for range 40 {
		p := begun(t, dice)
		for _, a := range actsOf(dice, 60) {
			s, _ := store.From(p.c.Entries())
			r := p.c.Do(a)
			p.m.do(a)
			tree, known := p.m.trees[a.Name]
			if a.Kind != api.ActCall || !known {
				continue
			}
			o, e := eval.Run(tree, a.Entry, a.Args, s, a.Gas)
			want := api.Receipt{Code: entryError(e), Outcome: o}
			if e == api.OK {
				want.Used = a.Gas - o.Left
			}
			if told(r) != told(want) {
				t.Fatalf("T3: %s: %s, by eval %s", brief(a), told(r), told(want))
			}
			if o.Kind == api.Returned && entriesTold(p.c.Entries()) != entriesTold(s.Entries()) {
				t.Fatalf("T3: %s: the store is %.300s, by eval %.300s", brief(a), entriesTold(p.c.Entries()), entriesTold(s.Entries()))
			}
			seen[o.Kind]++
		}
	}
	if seen[api.Returned] < 100 || seen[api.Trapped] < 50 || seen[api.Spent] < 50 {
		t.Errorf("the calls ended so: %v", seen)
	}
}

// TestT4Wholly: what does not return, or is refused, changes nothing of the store, and what has returned makes all that
// follows: the acts without those that came to nothing come to the same receipts and the same digest.
func TestT4Wholly(t *testing.T) {
	dice := rand.New(rand.NewSource(2204))
	for range 40 {
		entries := entriesOf(dice)
		c, d := from(t, entries), from(t, entries)
		for _, a := range actsOf(dice, 80) {
			was := c.Digest()
			r := c.Do(a)
			done := r.Code == api.OK && (a.Kind != api.ActCall || r.Outcome.Kind == api.Returned)
			if done {
				if other := d.Do(a); !reflect.DeepEqual(other, r) {
					t.Fatalf("T4: %s: %s, without what came to nothing %s", brief(a), told(r), told(other))
				}
			}
			if (!done || a.Kind != api.ActCall) && r.Digest != was {
				t.Fatalf("T4: %s: %s, but the state is another one", brief(a), told(r))
			}
		}
		if entriesTold(c.Entries()) != entriesTold(d.Entries()) || !slices.Equal(c.Modules(), d.Modules()) {
			t.Fatalf("T4: %.300s, without what came to nothing %.300s", entriesTold(c.Entries()), entriesTold(d.Entries()))
		}
	}
}

// TestT5Digests: chains have the same digest just if they have the same entries, however they came about.
func TestT5Digests(t *testing.T) {
	dice := rand.New(rand.NewSource(2205))
	known := map[[32]byte]string{}
	for range 30 {
		c := from(t, entriesOf(dice), "set", `export fn put(k, v) { save(k, v); } export fn lose(k) { drop(k); }`)
		for range 40 {
			a := call("set", "put", 9999, text(string(rune('a'+dice.Intn(3)))), []api.Value{unit, number(1), number(2), text(""), text("x"), list()}[dice.Intn(6)])
			if dice.Intn(2) == 0 {
				a.Entry, a.Args = "lose", a.Args[:1]
			}
			r := c.Do(a)
			l := c.Entries()
			if !slices.IsSortedFunc(l, func(a, b api.Entry) int { return strings.Compare(a.Key, b.Key) }) {
				t.Fatalf("T5: the entries are %.300s", entriesTold(l))
			}
			if was, there := known[r.Digest]; there && was != entriesTold(l) {
				t.Fatalf("T5: %.300s has the digest of %.300s", entriesTold(l), was)
			}
			known[r.Digest] = entriesTold(l)
			again := from(t, l)
			b, _ := state.Encode(l)
			back, _, e := state.Decode(b)
			if again.Digest() != r.Digest || e != api.OK || entriesTold(back) != entriesTold(l) {
				t.Fatalf("T5: %.300s: another digest, or other bytes", entriesTold(l))
			}
		}
	}
	texts := map[string]bool{}
	for _, s := range known {
		texts[s] = true
	}
	if len(texts) != len(known) || len(known) < 200 {
		t.Errorf("T5: %d digests of %d states", len(known), len(texts))
	}
}

// TestT1Modules: a module that is deployed by its bytes is told again with just these.
func TestT1Modules(t *testing.T) {
	dice := rand.New(rand.NewSource(2206))
	for range 100 {
		m, _, _ := compile.Source(written(dice))
		b, e := module.Encode(m)
		c := chain.New()
		if r := c.Do(bytes("m", string(b))); e != api.OK || r.Code != api.OK {
			t.Fatalf("T1: %s", told(r))
		}
		told, e := c.Module("m")
		again, f := module.Encode(told)
		if e != api.OK || f != api.OK || string(again) != string(b) {
			t.Fatalf("T1: %x, want %x", again, b)
		}
	}
}

// roomy is a value whose lists, and those within, have spare room, filled with what must stay.
func roomy(v api.Value) api.Value {
	if v.L != nil {
		l := make([]api.Value, 0, len(v.L)+2)
		for _, x := range v.L {
			l = append(l, roomy(x))
		}
		_ = append(l, number(77), text("spare"))
		v.L = l
	}
	if v.K != nil {
		v.K = append(make([]string, 0, len(v.K)+2), v.K...)
		_ = append(v.K, "spare", "room")
	}
	return v
}

// whole is a value with the spare room of its lists, as a text.
func whole(v api.Value) string {
	out := fmt.Sprintf("%d %d %q %q (", v.Kind, v.N, v.S, v.K[:cap(v.K)])
	for _, x := range v.L[:cap(v.L)] {
		out += whole(x)
	}
	return out + ")"
}

// memories are those of all lists of values.
func memories(l ...api.Value) []unsafe.Pointer {
	var out []unsafe.Pointer
	for _, v := range l {
		if cap(v.L) > 0 {
			out = append(out, unsafe.Pointer(unsafe.SliceData(v.L)))
		}
		if cap(v.K) > 0 {
			out = append(out, unsafe.Pointer(unsafe.SliceData(v.K)))
		}
		out = append(out, memories(v.L[:cap(v.L)]...)...)
	}
	return out
}

// scribble writes into all lists of values, their spare room too.
func scribble(l ...api.Value) {
	for _, v := range l {
		scribble(v.L[:cap(v.L)]...)
		for i := range v.L[:cap(v.L)] {
			v.L[:cap(v.L)][i] = number(-99)
		}
		for i := range v.K[:cap(v.K)] {
			v.K[:cap(v.K)][i] = "scribbled"
		}
	}
}

func values(l []api.Entry) []api.Value {
	var out []api.Value
	for _, x := range l {
		out = append(out, x.Value)
	}
	return out
}

const keeper = `export fn keep(v) { save("k", v); save("l", [v, {k: v}]); return {v: v, "w": [v]}; } export fn told() { return load("l"); } export fn fixed() { save("k", [[1, "a"]]); return [load("k"), {k: [1]}]; }`

// TestR3HandedIn: what is handed in is neither changed nor kept.
func TestR3HandedIn(t *testing.T) {
	deep := roomy(api.Value{Kind: api.Record, K: []string{"a", "b"}, L: []api.Value{list(number(1), list(text("x"))), unit}})
	room := append(make([]api.Entry, 0, 4), api.Entry{Key: "a", Value: deep}, api.Entry{Key: "b", Value: list(deep)})
	_ = append(room, api.Entry{Key: "spare"}, api.Entry{Key: "room"})
	before := fmt.Sprint(room[:4], whole(deep))
	c := from(t, room, "m", keeper)
	if fmt.Sprint(room[:4], whole(deep)) != before {
		t.Fatal("R3: From writes into its entries")
	}
	was := entriesTold(room)
	scribble(values(room)...)
	room[0], room[1] = api.Entry{Key: "x"}, api.Entry{Key: "y"}
	if entriesTold(c.Entries()) != was {
		t.Fatalf("R3: From keeps its entries: %s", entriesTold(c.Entries()))
	}
	for k, acts := range [][]api.Act{{call("m", "keep", 9999, roomy(list(number(1), list(text("x"))))), call("m", "told", 9999)}, {}} {
		c := from(t, nil, "m", keeper)
		l := append(make([]api.Act, 0, len(acts)+2), acts...)
		_ = append(l, source("spare", "x"), source("room", "y"))
		for i := range l {
			l[i].Args = append(make([]api.Value, 0, 3), l[i].Args...)
			_ = append(l[i].Args, number(77))
		}
		texts := func() string {
			out := fmt.Sprint(l[:cap(l)])
			for _, a := range l {
				for _, v := range a.Args[:cap(a.Args)] {
					out += whole(v)
				}
			}
			return out
		}
		before := texts()
		receipts := c.All(l)
		if texts() != before {
			t.Fatalf("R3: All writes into its acts %d", k)
		}
		was, told := entriesTold(c.Entries()), fmt.Sprint(receipts)
		for i := range l {
			scribble(l[i].Args...)
			clear(l[i].Args[:cap(l[i].Args)])
		}
		clear(l[:cap(l)])
		if entriesTold(c.Entries()) != was || fmt.Sprint(receipts) != told {
			t.Fatalf("R3: All keeps its acts %d: %s", k, entriesTold(c.Entries()))
		}
	}
}

// TestR3Answers: answers share no memory with the chain, nor with each other.
func TestR3Answers(t *testing.T) {
	c := from(t, []api.Entry{{Key: "a", Value: list(list(number(1)), unit)}}, "m", keeper)
	v := list(number(1), list(text("x")))
	l := c.All([]api.Act{call("m", "keep", 9999, v), call("m", "told", 9999), call("m", "fixed", 9999), call("m", "fixed", 9999)})
	m, _ := c.Module("m")
	again, _ := c.Module("m")
	entries, more := c.Entries(), c.Entries()
	told := fmt.Sprint(l, m, entries)
	all := memories(v)
	for _, r := range l {
		all = append(all, memories(r.Outcome.Value)...)
	}
	for _, l := range [][]api.Value{m.Consts, again.Consts, values(entries), values(more)} {
		all = append(all, memories(list(l...))...)
	}
	slices.SortFunc(all, func(a, b unsafe.Pointer) int { return int(uintptr(a)) - int(uintptr(b)) })
	if len(all) < 30 || len(slices.Compact(slices.Clone(all))) != len(all) {
		t.Errorf("R3: lists of answers share memory: %d of %d are unlike", len(slices.Compact(all)), len(all))
	}
	scribbleModule(again)
	scribble(values(more)...)
	for i := range more[:cap(more)] {
		more[:cap(more)][i] = api.Entry{Key: "scribbled"}
	}
	names := c.Modules()
	clear(names[:cap(names)])
	if fmt.Sprint(l, m, entries) != told {
		t.Error("R3: an answer is changed by writing into another one")
	}
	n, _ := c.Module("m")
	if fmt.Sprint(n) != fmt.Sprint(m) || !slices.Equal(c.Modules(), []string{"m"}) || fmt.Sprint(c.Entries()) != fmt.Sprint(entries) {
		t.Error("R3: the chain is changed by writing into an answer")
	}
	want := fmt.Sprint(l[2])
	scribble(l[0].Outcome.Value, l[1].Outcome.Value, l[2].Outcome.Value, l[3].Outcome.Value)
	if r := c.Do(call("m", "fixed", 9999)); fmt.Sprint(r) != want {
		t.Errorf("R3: a call comes to something else: %v, want %s", r, want)
	}
}

// scribbleModule writes into all lists of a module.
func scribbleModule(m api.Module) {
	scribble(m.Consts...)
	clear(m.Consts[:cap(m.Consts)])
	clear(m.Funcs[:cap(m.Funcs)])
	clear(m.Exports[:cap(m.Exports)])
}

// TestR4Apart: chains have nothing in common, also such as come of the same entries, and such as are worked on at the
// same time.
func TestR4Apart(t *testing.T) {
	a, b := chain.New(), chain.New()
	a.Do(source("m", plain))
	a.Do(call("m", "set", 99, number(1)))
	bare(t, "another chain", b, nil)
	does(t, b, call("m", "set", 99, number(1)), "error 221 at 0", "")
	bare(t, "New", chain.New(), nil)
	l := a.Entries()
	x, y := from(t, l, "m", plain), from(t, l, "m", plain)
	does(t, x, call("m", "set", 99, number(2)), "unit, left 68, used 31", `"k": 2`)
	does(t, y, call("m", "bad", 99), "trap 8, left 68, used 31", `"k": 1`)
	does(t, a, call("m", "set", 99, number(3)), "unit, left 68, used 31", `"k": 3`)
	does(t, y, call("m", "set", 99, number(4)), "unit, left 68, used 31", `"k": 4`)

	dice := rand.New(rand.NewSource(2207))
	acts, entries := actsOf(dice, 200), entriesOf(dice)
	want := fmt.Sprint(from(t, entries).All(acts))
	var group sync.WaitGroup
	for range 8 {
		c := from(t, entries)
		group.Go(func() {
			if fmt.Sprint(c.All(acts)) != want {
				t.Error("R4: chains at the same time come to something else")
			}
		})
	}
	group.Wait()
}

// TestR1Bodies: of whatever bytes there is an answer, and what is refused changes nothing.
func TestR1Bodies(t *testing.T) {
	dice := rand.New(rand.NewSource(2208))
	good := encoded(t, ".const 1/.const [\"a\"]/.func 1 2 3/get 0/record 1/pop/const 0/ret/.func 0 0 1/const 0/call 0/ret/.export f 1/.export g 0")
	p := pair{chain.New(), modelOf(nil)}
	for range 3000 {
		s := []string{good, good, plain, keeper, ""}[dice.Intn(5)]
		for range 1 + dice.Intn(3) {
			s = spoilt(dice, s)
		}
		a := api.Act{Kind: 1 + dice.Intn(2), Name: fmt.Sprint("m", len(p.m.names)), Body: s}
		if len(p.m.names) == 16 {
			p = pair{chain.New(), modelOf(nil)}
		}
		want := p.m.do(a)
		if r := p.c.Do(a); told(r) != told(want) {
			t.Fatalf("R1: %s: %s, want %s", brief(a), told(r), told(want))
		}
		if got := p.c.Modules(); len(got) != len(p.m.names) {
			t.Fatalf("R1: %s: the modules are %q", brief(a), got)
		}
	}
	meet(t, p)
}
