package shell

import (
	"strconv"
	"strings"

	"scruple/api"
	"scruple/value"
)

const (
	dot      = "." // the line that ends a body, and what is told over several lines
	allRight = "ok"
	none     = "none"
)

// traps are the traps' words, by their numbers.
var traps = [...]string{
	api.TrapDivide: "divide",
	api.TrapIndex:  "index",
	api.TrapType:   "type",
	api.TrapDepth:  "depth",
	api.TrapSize:   "size",
	api.TrapKey:    "key",
	api.TrapArity:  "arity",
	api.TrapAbort:  "abort",
	api.TrapStore:  "store",
}

// tell tells a line of these words.
func (s *session) tell(words ...string) {
	s.told.WriteString(strings.Join(words, " "))
	s.told.WriteByte('\n')
}

// tellText tells lines as they are, and where they end.
func (s *session) tellText(text string) {
	s.told.WriteString(text)
	s.tell(dot)
}

// refused: is there an error? Then it is told.
func (s *session) refused(e api.Errno) bool {
	if e == api.OK {
		return false
	}
	s.tell(e.Error())
	return true
}

// refusedAt is the same of one that has a place, or a line.
func (s *session) refusedAt(e api.Errno, at int) bool {
	if e == api.OK {
		return false
	}
	s.tell(e.Error(), "at", strconv.Itoa(at))
	return true
}

// called is a call's receipt.
func called(r api.Receipt) string {
	if r.Code != api.OK {
		return r.Code.Error()
	}
	return ended(r.Outcome) + " used " + decimal(r.Used)
}

// seen is a machine: how it has ended, or where it stands.
func seen(v api.View) string {
	steps := " steps " + decimal(v.Steps)
	if v.Ended {
		return ended(v.Outcome) + steps
	}
	inner := v.Frames[len(v.Frames)-1]
	return "at " + strconv.Itoa(inner.Func) + " " + strconv.Itoa(inner.At) +
		" height " + strconv.Itoa(len(inner.Stack)) + " left " + decimal(v.Left) + steps
}

func ended(o api.Outcome) string {
	switch o.Kind {
	case api.Returned:
		return allRight + " " + value.Print(o.Value)
	case api.Trapped:
		return "trap " + traps[o.Trap]
	}
	return "spent"
}

func decimal(n int64) string { return strconv.FormatInt(n, 10) }
