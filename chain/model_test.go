package chain_test

import (
	"fmt"
	"math/rand"
	"regexp"
	"slices"

	"scruple/api"
	"scruple/chain"
	"scruple/check"
	"scruple/compile"
	"scruple/module"
	"scruple/parse"
	"scruple/step"
	"scruple/store"
	"scruple/verify"
)

// The model reads the chapter in another way: it keeps entries, not a store; a call is run by step's machine on a store
// of its own, whose entries take the place of those that are kept if the call has returned.
type model struct {
	names   []string // as they were deployed
	modules map[string]api.Module
	trees   map[string]api.Node // of the modules that were deployed as a source
	entries []api.Entry
}

func modelOf(l []api.Entry) *model {
	return &model{modules: map[string]api.Module{}, trees: map[string]api.Node{}, entries: l}
}

var name = regexp.MustCompile(`\A[A-Za-z_][A-Za-z0-9_]{0,19}\z`)

// do is Do, but for the Digest.
func (m *model) do(a api.Act) api.Receipt {
	switch a.Kind {
	case 1, 2:
		return m.deploy(a)
	case 3:
		return m.call(a)
	}
	return api.Receipt{Code: 223}
}

func (m *model) deploy(a api.Act) api.Receipt {
	if !name.MatchString(a.Name) || slices.Contains(m.names, a.Name) {
		return api.Receipt{Code: 220}
	}
	if len(m.names) == 16 {
		return api.Receipt{Code: 222}
	}
	var x api.Module
	if a.Kind == 1 {
		made, at, e := compile.Source(a.Body)
		if e != 0 {
			return api.Receipt{Code: e, At: at}
		}
		x = made
		m.trees[a.Name], _, _ = parse.Program(a.Body)
	} else {
		read, at, e := module.Decode([]byte(a.Body))
		if e != 0 {
			return api.Receipt{Code: 224, At: at}
		}
		if fault := verify.Module(read); fault.Code != 0 {
			return api.Receipt{Code: fault.Code, At: fault.At}
		}
		x = read
	}
	m.names = append(m.names, a.Name)
	m.modules[a.Name] = x
	return api.Receipt{}
}

func (m *model) call(a api.Act) api.Receipt {
	if !slices.Contains(m.names, a.Name) {
		return api.Receipt{Code: 221}
	}
	s, _ := store.From(m.entries)
	x, e := step.New(m.modules[a.Name], a.Entry, a.Args, s, a.Gas)
	if e != 0 {
		return api.Receipt{Code: e}
	}
	x.Run(1 << 40)
	o := x.View().Outcome
	if o.Kind == api.Returned {
		m.entries = s.Entries()
	}
	return api.Receipt{Outcome: o, Used: a.Gas - x.View().Left}
}

// writer writes random sources: functions of one parameter x that read and change a store, and end in all ways. Their
// names and parameters say nothing of kinds, so that many of them trap.
type writer struct {
	dice  *rand.Rand
	loops int
}

func (w *writer) one(of int) bool { return w.dice.Intn(of) == 0 }

func (w *writer) pick(l ...string) string { return l[w.dice.Intn(len(l))] }

func (w *writer) key() string {
	if w.one(80) {
		return w.pick(`""`, "x", "5", `"`+many("k", 33)+`"`)
	}
	return w.pick(`"a"`, `"b"`, `"c"`, `"d"`, `"e"`, `"f"`, `"a"`, `"b"`, `"`+many("k", 32)+`"`)
}

func (w *writer) expr(depth int) string {
	e := func() string { return w.expr(depth - 1) }
	if depth == 0 {
		return w.pick("1", "2", "x", "x", "unit", "true", `"a"`, w.key(), "[]", "{k: 1}")
	}
	switch w.dice.Intn(14) {
	case 0, 1, 2:
		return "load(" + w.key() + ")"
	case 3:
		return "after(" + w.key() + ")"
	case 4, 5:
		return "(kind(" + e() + ") " + w.pick("+", "*", "-") + " kind(" + e() + "))"
	case 6:
		return "[" + e() + ", " + e() + "]"
	case 7:
		return "{k: " + e() + ", \"\": " + e() + "}"
	case 8:
		return "[" + e() + "][0]"
	case 9:
		return "digest(" + e() + ")"
	case 10:
		if w.one(3) {
			return w.pick("f", "g", "h") + "(" + e() + ")"
		}
		return "(" + w.key() + " + " + w.pick(w.key(), `"`+many("z", 900)+`"`) + ")"
	case 11:
		return "(" + e() + " == " + e() + ")"
	case 12:
		return "drop(" + w.key() + ")"
	}
	return w.expr(0)
}

func (w *writer) statement(depth int) string {
	switch k := w.dice.Intn(30); {
	case k < 10:
		return "save(" + w.key() + ", " + w.expr(2) + "); "
	case k < 14:
		return "drop(" + w.key() + "); "
	case k < 16:
		return "x = " + w.expr(2) + "; "
	case k < 20 && depth > 0:
		return "if (kind(" + w.expr(1) + ") " + w.pick("==", "<", "!=") + w.pick("0", "2", "3") + ") { " + w.block(depth-1) + "} else { " + w.block(depth-1) + "} "
	case k < 22 && depth > 0:
		w.loops++
		i := fmt.Sprint("i", w.loops)
		return "let " + i + " = 0; while (" + i + " < " + w.pick("1", "3", "9") + ") { " + i + " = " + i + " + 1; " + w.block(depth-1) + "} "
	case k == 22:
		return "return " + w.expr(2) + "; "
	case k == 23 && w.one(2):
		return "abort(" + w.expr(1) + "); "
	case k == 24 && w.one(2):
		return w.pick("1 / 0; ", "[][0]; ", "{}.k; ", "-true; ", "while (true) { } ", "digest(f(x)); ", `"`+many("y", 2000)+`" + "`+many("y", 60)+`"; `)
	}
	return w.expr(2) + "; "
}

func (w *writer) block(depth int) string {
	out := ""
	for range w.dice.Intn(4) {
		out += w.statement(depth)
	}
	return out
}

// written is a random source that check takes.
func written(dice *rand.Rand) string {
	for {
		w := &writer{dice: dice}
		out := ""
		for _, head := range []string{"export fn f(x) { ", "export fn g(x) { ", "fn h(x) { "} {
			out += head + w.block(2) + w.block(2) + "} "
		}
		n, _, e := parse.Program(out)
		if e != api.OK {
			continue
		}
		if _, e := check.Program(n); e == api.OK {
			return out
		}
	}
}

// spoilt is a text that is cut, longer, or has another byte.
func spoilt(dice *rand.Rand, s string) string {
	b := []byte(s)
	switch at := dice.Intn(len(b) + 1); dice.Intn(4) {
	case 0:
		return s[:at]
	case 1:
		return s + s[at:]
	case 2:
		return s[:at] + string(rune(dice.Intn(128))) + s[at:]
	default:
		if at < len(b) {
			b[at] = byte(dice.Intn(256))
		}
		return string(b)
	}
}

// argument is a random value, now and then one that is not right.
func argument(dice *rand.Rand) api.Value {
	if dice.Intn(60) == 0 {
		return []api.Value{{Kind: 9}, truth(2), heavy(2049)}[dice.Intn(3)]
	}
	return []api.Value{unit, truth(1), number(3), number(-1 << 63), text("a"), text("f"), list(number(1), text("b")), heavy(1500)}[dice.Intn(8)]
}

// actor makes random acts. Most of its calls are of modules that it has had deployed, by a good source.
type actor struct {
	dice  *rand.Rand
	names []string // of which it has modules deployed
	there []string
}

func (x *actor) act() api.Act {
	switch k := x.dice.Intn(60); {
	case k < 8 || len(x.there) == 0:
		return x.deployment()
	case k == 8:
		a := []api.Act{x.deployment(), x.call()}[x.dice.Intn(2)]
		a.Kind = []int{0, 4, -1, 1, 2, 3}[x.dice.Intn(6)]
		return a
	}
	return x.call()
}

func (x *actor) deployment() api.Act {
	a := source(x.names[x.dice.Intn(len(x.names))], written(x.dice))
	if x.dice.Intn(2) == 0 {
		m, _, _ := compile.Source(a.Body)
		b, _ := module.Encode(m)
		a = bytes(a.Name, string(b))
	}
	if x.dice.Intn(3) == 0 {
		a.Body = spoilt(x.dice, a.Body)
	} else {
		x.there = append(x.there, a.Name)
	}
	return a
}

func (x *actor) call() api.Act {
	dice := x.dice
	name := x.names[dice.Intn(len(x.names))]
	if len(x.there) > 0 && dice.Intn(20) > 0 {
		name = x.there[dice.Intn(len(x.there))]
	}
	a := call(name, []string{"f", "g"}[dice.Intn(2)], int64(dice.Intn([]int{50, 500, 5000, 20000}[dice.Intn(4)])), argument(dice))
	switch dice.Intn(80) {
	case 0:
		a.Entry = []string{"h", "k", ""}[dice.Intn(3)]
	case 1:
		a.Gas = []int64{-1, 1000001, -1 << 63, 1<<63 - 1}[dice.Intn(4)]
	case 2:
		a.Args = []api.Value{unit, unit}[:2*dice.Intn(2)]
	}
	return a
}

// actsOf are so many random acts on modules of a random choice of names: of a few, or of more than may be deployed.
func actsOf(dice *rand.Rand, count int) []api.Act {
	x := &actor{dice: dice, names: []string{"m", "n", "M", "_", "m1", "1m", "", many("m", 20), many("m", 21)}}
	switch dice.Intn(3) {
	case 0:
		x.names = x.names[:2]
	case 1:
		for i := range 60 {
			x.names = append(x.names, fmt.Sprint("x", i))
		}
	}
	var l []api.Act
	for range count {
		if dice.Intn(3) == 0 && len(x.names) > 60 {
			l = append(l, x.deployment())
		} else {
			l = append(l, x.act())
		}
	}
	return l
}

// entriesOf are random entries, at times so heavy or so many that a store of them is nearly full.
func entriesOf(dice *rand.Rand) []api.Entry {
	l := []api.Entry{{Key: "a", Value: number(5)}, {Key: "b", Value: list(unit, text("c"))}, {Key: "c"}}[:dice.Intn(4)]
	switch dice.Intn(6) {
	case 0:
		for i := range 15 {
			l = append(l, api.Entry{Key: fmt.Sprintf("z%02d", i), Value: heavy(2048)})
		}
	case 1:
		for i := range 122 + dice.Intn(4) {
			l = append(l, api.Entry{Key: fmt.Sprintf("z%03d", i)})
		}
	}
	return l
}

// pair is a chain, and a model of it.
type pair struct {
	c *chain.Chain
	m *model
}
