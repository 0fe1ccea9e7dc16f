package shell

import (
	"strconv"

	"scruple/api"
	"scruple/asm"
	"scruple/hash"
	"scruple/lines"
	"scruple/module"
	"scruple/parse"
	"scruple/print"
	"scruple/step"
	"scruple/store"
	"scruple/value"
)

// kinds are the kinds of lines, by their first words: each reads what stands behind
// that, and answers what such a line does.
func kinds() map[string]func(l *line) deed {
	return map[string]func(l *line) deed{
		"source":  (*line).source,
		"asm":     (*line).asm,
		"module":  (*line).module,
		"call":    (*line).call,
		"trace":   (*line).trace,
		"bid":     (*line).bid,
		"batch":   (*line).batch,
		"form":    (*line).form,
		"show":    (*line).show,
		"hex":     (*line).hex,
		"get":     (*line).get,
		"entries": (*line).entries,
		"modules": (*line).modules,
		"digest":  (*line).digest,
	}
}

func (l *line) source() deed {
	name, body := l.word(), l.body()
	return func(s *session) { s.deploy(api.ActSource, name, body) }
}

func (l *line) asm() deed {
	name, body := l.word(), l.body()
	return func(s *session) {
		m, at, e := asm.Parse(body)
		if s.refusedAt(e, at) {
			return
		}
		b, _ := module.Encode(m) // of what asm tells there are bytes
		s.deploy(api.ActModule, name, string(b))
	}
}

func (l *line) module() deed {
	name, body := l.word(), l.bytes()
	return func(s *session) { s.deploy(api.ActModule, name, body) }
}

func (s *session) deploy(kind int, name, body string) {
	r := s.chain.Do(api.Act{Kind: kind, Name: name, Body: body})
	if !s.refusedAt(r.Code, r.At) {
		s.tell(allRight)
	}
}

func (l *line) call() deed {
	act := l.act()
	return func(s *session) { s.tell(called(s.chain.Do(act))) }
}

// act is a call, as lines name it.
func (l *line) act() api.Act {
	return api.Act{
		Kind:  api.ActCall,
		Name:  l.word(),
		Entry: l.word(),
		Gas:   int64(l.number()),
		Args:  l.value(api.Array).L,
	}
}

func (l *line) trace() deed {
	name, entry, gas, steps := l.word(), l.word(), int64(l.number()), int64(l.number())
	args := l.value(api.Array).L
	return func(s *session) {
		m, e := s.chain.Module(name)
		if s.refused(e) {
			return
		}
		apart, _ := store.From(s.chain.Entries()) // which are a store's
		machine, e := step.New(m, entry, args, apart, gas)
		if s.refused(e) {
			return
		}
		machine.Run(steps)
		s.tell(seen(machine.View()))
	}
}

func (l *line) bid() deed {
	b := api.Bid{From: l.number(), Number: l.number(), Fee: l.number(), Act: l.act()}
	return func(s *session) {
		if !s.refused(s.pool.Add(b)) {
			s.tell(allRight)
		}
	}
}

func (l *line) batch() deed {
	most := l.number()
	return func(s *session) {
		bids := s.pool.Batch(most)
		for _, b := range bids {
			s.tell(strconv.Itoa(b.From), strconv.Itoa(b.Number), called(s.chain.Do(b.Act)))
		}
		s.tell("done", strconv.Itoa(len(bids)))
	}
}

func (l *line) form() deed {
	body := l.body()
	return func(s *session) {
		n, at, e := parse.Program(body)
		if s.refusedAt(e, at) {
			return
		}
		text, _ := print.Program(n) // what parse tells has a form
		s.tellText(text)
	}
}

func (l *line) show() deed {
	name := l.word()
	return func(s *session) {
		m, e := s.chain.Module(name)
		if s.refused(e) {
			return
		}
		text, e := asm.Print(m)
		if s.refused(e) {
			return
		}
		s.tellText(text)
	}
}

func (l *line) hex() deed {
	name := l.word()
	return func(s *session) {
		m, e := s.chain.Module(name)
		if s.refused(e) {
			return
		}
		b, _ := module.Encode(m) // a chain's module has bytes
		s.tell(lines.Hex(string(b)))
	}
}

func (l *line) get() deed {
	key := l.value(api.Bytes).S
	return func(s *session) {
		for _, entry := range s.chain.Entries() {
			if entry.Key == key {
				s.tell(value.Print(entry.Value))
				return
			}
		}
		s.tell(none)
	}
}

func (l *line) entries() deed {
	return func(s *session) {
		for _, entry := range s.chain.Entries() {
			s.tell(value.Print(api.Value{Kind: api.Bytes, S: entry.Key}), value.Print(entry.Value))
		}
		s.tell(dot)
	}
}

func (l *line) modules() deed {
	return func(s *session) {
		names := s.chain.Modules()
		if len(names) == 0 {
			names = []string{none}
		}
		s.tell(names...)
	}
}

func (l *line) digest() deed {
	return func(s *session) { s.tell(hash.Hex(s.chain.Digest())) }
}
