package shell

import (
	"errors"
	"slices"
	"strconv"
	"strings"

	"scruple/api"
	"scruple/lines"
)

// Why a script comes to nothing: it is too long, or one of its lines is none.
var (
	errLong   = errors.New("more bytes than may be")
	errMany   = errors.New("more lines than may be")
	errKind   = errors.New("a first word that begins no line")
	errFew    = errors.New("too few words")
	errRest   = errors.New("too many words")
	errNumber = errors.New("a word that is no number")
	errHex    = errors.New("a word that is no bytes' digits")
	errValue  = errors.New("what is no value's text, or another kind's")
	errBody   = errors.New("a body without an end")
)

// stop is the line by which a script comes to nothing, and why.
type stop struct {
	line int
	why  error
}

// Error says both.
func (s *stop) Error() string { return "line " + strconv.Itoa(s.line) + ": " + s.why.Error() }

// Unwrap lets errors.Is find why.
func (s *stop) Unwrap() error { return s.why }

// order is what a line does, and where it stands.
type order struct {
	line int
	do   deed
}

// deed is what a line does, and tells, when its turn has come.
type deed func(s *session)

// read are the orders of all lines that say something.
func read(text string) ([]order, *stop) {
	if len(text) > api.MaxText {
		return nil, &stop{0, errLong}
	}
	var out []order
	all, known := strings.Split(text, "\n"), kinds()
	for at := 0; at < len(all); at++ {
		if lines.Silent(all[at]) {
			continue
		}
		l := line{rest: all[at], below: all[at+1:]}
		do := l.deed(known)
		if len(out) == api.MaxLines {
			l.fail(errMany)
		}
		if l.why != nil {
			return nil, &stop{at + 1, l.why}
		}
		out = append(out, order{at + 1, do})
		at += l.taken
	}
	return out, nil
}

// line is one that is being read, word by word. Once something is wrong with it,
// what else is read of it means nothing.
type line struct {
	rest  string
	below []string // the lines behind it
	taken int      // how many of these are its body and the body's end
	why   error    // it is none; nil, if it is one as far as it was read
}

// fail says why the line is none. What is wrong first counts.
func (l *line) fail(why error) {
	if l.why == nil {
		l.why = why
	}
}

// deed reads the line as a whole.
func (l *line) deed(known map[string]func(l *line) deed) deed {
	read, there := known[l.word()]
	if !there {
		l.fail(errKind)
		return nil
	}
	do := read(l)
	if l.rest != "" {
		l.fail(errRest)
	}
	return do
}

// word is the next one, whatever it is.
func (l *line) word() string {
	var word string
	word, l.rest = lines.Cut(l.rest)
	if word == "" {
		l.fail(errFew)
	}
	return word
}

// number is the next word as a number.
func (l *line) number() int {
	n, ok := lines.Number(l.word())
	if !ok {
		l.fail(errNumber)
	}
	return n
}

// bytes are those whose digits the next word is.
func (l *line) bytes() string {
	s, ok := lines.Unhex(l.word())
	if !ok {
		l.fail(errHex)
	}
	return s
}

// value is that of a kind whose text all the rest of the line is.
func (l *line) value(kind int) api.Value {
	v, ok := lines.Value(l.rest)
	if !ok || v.Kind != kind {
		l.fail(errValue)
	}
	l.rest = ""
	return v
}

// body is the text of the lines behind the line, up to a dot.
func (l *line) body() string {
	count := slices.Index(l.below, dot)
	if count < 0 {
		l.fail(errBody)
		return ""
	}
	l.taken = count + 1
	var out strings.Builder
	for _, text := range l.below[:count] {
		out.WriteString(text)
		out.WriteByte('\n')
	}
	return out.String()
}
