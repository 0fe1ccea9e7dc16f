package shell_test

import (
	"fmt"
	"regexp"
	"strconv"
	"strings"

	"scruple/api"
	"scruple/asm"
	"scruple/chain"
	"scruple/hash"
	"scruple/module"
	"scruple/parse"
	"scruple/pool"
	"scruple/print"
	"scruple/step"
	"scruple/store"
	"scruple/value"
)

// The model is a second reading of the chapter. A script is read by expressions over all that is left of it, one for each
// row of the chapter's table; what a line does is found by doing all acts anew, from the first one on, on another chain.

const (
	aWord   = ` +([^ \n]+)`
	aNumber = ` +(0|[1-9][0-9]{0,8})`
	aHex    = ` +((?:[0-9a-f][0-9a-f])+)`
	aValue  = ` +([^ \n](?:[^\n]*[^ \n])?)`
	anEnd   = ` *(?:\n|$)`
	aBody   = ` *\n((?:[^\n]*\n)*?)\.(?:\n|$)`
)

// rows are those of the chapter's table: what stands behind the first word.
var rows = map[string]*regexp.Regexp{}

func init() {
	for word, rest := range map[string]string{
		"source":  aWord + aBody,
		"asm":     aWord + aBody,
		"module":  aWord + aHex + anEnd,
		"call":    aWord + aWord + aNumber + aValue + anEnd,
		"trace":   aWord + aWord + aNumber + aNumber + aValue + anEnd,
		"bid":     aNumber + aNumber + aNumber + aWord + aWord + aNumber + aValue + anEnd,
		"batch":   aNumber + anEnd,
		"form":    aBody,
		"show":    aWord + anEnd,
		"hex":     aWord + anEnd,
		"get":     aValue + anEnd,
		"entries": anEnd,
		"modules": anEnd,
		"digest":  anEnd,
	} {
		rows[word] = regexp.MustCompile(`^ *` + word + rest)
	}
}

var nothingSaid = regexp.MustCompile(`^ *(;[^\n]*)?(\n|$)`)

// said is a line: its first word, and what its row's expression found.
type said struct {
	at    int
	word  string
	parts []string
	value api.Value // the one that its last part is, if its row has one
}

// valued are the rows that end with a value, and its kind.
var valued = map[string]int{"call": api.Array, "trace": api.Array, "bid": api.Array, "get": api.Bytes}

// valueOf is what a text says, read as a module's constant.
func valueOf(text string, kind int) (api.Value, bool) {
	m, _, e := asm.Parse(".const " + text)
	if e != api.OK || m.Consts[0].Kind != kind {
		return api.Value{}, false
	}
	return m.Consts[0], true
}

// saidAt finds the line that begins there, and where the next one does.
func saidAt(text string, at, line int) (said, int, bool) {
	for word, row := range rows {
		parts := row.FindStringSubmatch(text[at:])
		if parts == nil {
			continue
		}
		s := said{at: line, word: word, parts: parts[1:]}
		if kind, has := valued[word]; has {
			v, ok := valueOf(parts[len(parts)-1], kind)
			if !ok {
				return said{}, 0, false
			}
			s.value = v
		}
		return s, at + len(parts[0]), true
	}
	return said{}, 0, false
}

// modelRead reads a whole script: its lines; or the first that is none.
func modelRead(text string) ([]said, int) {
	var out []said
	for at := 0; at < len(text); {
		line := 1 + strings.Count(text[:at], "\n")
		if silent := nothingSaid.FindString(text[at:]); silent != "" {
			at += len(silent)
			continue
		}
		s, next, ok := saidAt(text, at, line)
		if !ok || len(out) == 500 {
			return nil, line
		}
		out, at = append(out, s), next
	}
	return out, 0
}

// modelRun is Run, read a second time.
func modelRun(text string) (string, int, api.Errno) {
	if len(text) > 65536 {
		return "", 0, api.ErrShellLong
	}
	all, wrong := modelRead(text)
	if wrong > 0 {
		return "", wrong, api.ErrShellLine
	}
	m := &model{}
	var out strings.Builder
	for _, s := range all {
		for _, line := range m.do(s) {
			out.WriteString(line + "\n")
		}
		if out.Len() > 1048576 {
			return "", s.at, api.ErrShellLong
		}
	}
	return out.String(), 0, api.OK
}

// model is all that has been done: the acts, and what was asked of the pool (a bid, or how many are to be taken).
type model struct {
	acts  []api.Act
	asked []any
}

// chain is one on which all acts were done, and the last one's receipt.
func (m *model) chain() (*chain.Chain, api.Receipt) {
	c := chain.New()
	var last api.Receipt
	for _, a := range m.acts {
		last = c.Do(a)
	}
	return c, last
}

func (m *model) act(a api.Act) string {
	m.acts = append(m.acts, a)
	_, r := m.chain()
	switch {
	case a.Kind == api.ActCall && r.Code == 0:
		return fmt.Sprintf("%s used %d", modelEnd(r.Outcome), r.Used)
	case a.Kind == api.ActCall:
		return fmt.Sprintf("error %d", int(r.Code))
	case r.Code == 0:
		return "ok"
	}
	return fmt.Sprintf("error %d at %d", int(r.Code), r.At)
}

func modelEnd(o api.Outcome) string {
	switch o.Kind {
	case api.Returned:
		return "ok " + value.Print(o.Value)
	case api.Spent:
		return "spent"
	}
	return "trap " + strings.Fields("divide index type depth size key arity abort store")[o.Trap-1]
}

// bids are what comes of the last thing that was asked of the pool.
func (m *model) bids() ([]api.Bid, api.Errno) {
	p, _ := pool.New(64)
	var taken []api.Bid
	var e api.Errno
	for _, asked := range m.asked {
		taken, e = nil, 0
		switch x := asked.(type) {
		case api.Bid:
			e = p.Add(x)
		case int:
			for range x {
				b, ok := p.Take()
				if !ok {
					break
				}
				taken = append(taken, b)
			}
		}
	}
	return taken, e
}

func num(s string) int {
	n, err := strconv.Atoi(s)
	if err != nil {
		panic(err)
	}
	return n
}

func errorOf(e api.Errno) []string { return []string{fmt.Sprintf("error %d", int(e))} }

// dotted are a text's lines, and a dot.
func dotted(text string) []string { return strings.Split(text+".", "\n") }

// do is what a line tells.
func (m *model) do(s said) []string {
	p := s.parts
	switch s.word {
	case "source":
		return []string{m.act(api.Act{Kind: 1, Name: p[0], Body: p[1]})}
	case "asm":
		x, at, e := asm.Parse(p[1])
		if e != 0 {
			return []string{fmt.Sprintf("error %d at %d", int(e), at)}
		}
		b, _ := module.Encode(x)
		return []string{m.act(api.Act{Kind: 2, Name: p[0], Body: string(b)})}
	case "module":
		var b []byte
		fmt.Sscanf(p[1], "%x", &b)
		return []string{m.act(api.Act{Kind: 2, Name: p[0], Body: string(b)})}
	case "call":
		return []string{m.act(callOf(p, s.value))}
	case "bid":
		m.asked = append(m.asked, api.Bid{From: num(p[0]), Number: num(p[1]), Fee: num(p[2]), Act: callOf(p[3:], s.value)})
		if _, e := m.bids(); e != 0 {
			return errorOf(e)
		}
		return []string{"ok"}
	case "batch":
		return m.batch(num(p[0]))
	case "form":
		n, at, e := parse.Program(p[0])
		if e != 0 {
			return []string{fmt.Sprintf("error %d at %d", int(e), at)}
		}
		text, _ := print.Program(n)
		return dotted(text)
	}
	return m.look(s)
}

func callOf(p []string, args api.Value) api.Act {
	return api.Act{Kind: 3, Name: p[0], Entry: p[1], Gas: int64(num(p[2])), Args: args.L}
}

func (m *model) batch(most int) []string {
	m.asked = append(m.asked, min(most, 64)) // there are no more
	taken, _ := m.bids()
	var out []string
	for _, b := range taken {
		out = append(out, fmt.Sprintf("%d %d %s", b.From, b.Number, m.act(b.Act)))
	}
	return append(out, fmt.Sprintf("done %d", len(taken)))
}

// look is what is told by a line that changes nothing.
func (m *model) look(s said) []string {
	c, _ := m.chain()
	switch s.word {
	case "digest":
		d := c.Digest()
		return []string{hash.Hex(d)}
	case "modules":
		if l := c.Modules(); len(l) > 0 {
			return []string{strings.Join(l, " ")}
		}
		return []string{"none"}
	case "entries":
		out := []string{}
		for _, x := range c.Entries() {
			out = append(out, value.Print(api.Value{Kind: 3, S: x.Key})+" "+value.Print(x.Value))
		}
		return append(out, ".")
	case "get":
		told := "none"
		for _, x := range c.Entries() {
			if x.Key == s.value.S {
				told = value.Print(x.Value)
			}
		}
		return []string{told}
	}
	x, e := c.Module(s.parts[0])
	if e != 0 {
		return errorOf(e)
	}
	switch s.word {
	case "hex":
		b, _ := module.Encode(x)
		return []string{fmt.Sprintf("%x", b)}
	case "show":
		text, e := asm.Print(x)
		if e != 0 {
			return errorOf(e)
		}
		return dotted(text)
	}
	return modelTrace(x, c.Entries(), s)
}

// modelTrace goes step by step, on a store that is filled entry by entry.
func modelTrace(x api.Module, l []api.Entry, s said) []string {
	held := store.New()
	for _, entry := range l {
		held.Put(entry.Key, entry.Value)
	}
	machine, e := step.New(x, s.parts[1], s.value.L, held, int64(num(s.parts[2])))
	if e != 0 {
		return errorOf(e)
	}
	for n := num(s.parts[3]); n > 0 && machine.Step(); n-- {
	}
	v := machine.View()
	if v.Ended {
		return []string{fmt.Sprintf("%s steps %d", modelEnd(v.Outcome), v.Steps)}
	}
	top := v.Frames[len(v.Frames)-1]
	return []string{fmt.Sprintf("at %d %d height %d left %d steps %d", top.Func, top.At, len(top.Stack), v.Left, v.Steps)}
}
