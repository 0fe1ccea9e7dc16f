package lines

import (
	"strconv"
	"strings"

	"scruple/api"
	"scruple/value"
)

// Value is the right value that value.Print writes so.
func Value(text string) (api.Value, bool) {
	t := tail{text}
	v, ok := t.value(1)
	// Reading lets much pass. What counts is the one text that a right value
	// has; of one that is not right nothing is printed.
	if !ok || value.Print(v) != text {
		return api.Value{}, false
	}
	return v, true
}

// tail is what is left of a value's text: it is read from the left. Each text
// that value.Print writes is read as its value; of others it hangs on the
// reading, so what was read must be printed, and compared.
type tail struct{ text string }

// skip leaves a text out, if that stands first.
func (t *tail) skip(s string) bool {
	rest, ok := strings.CutPrefix(t.text, s)
	t.text = rest
	return ok
}

// take are the next bytes: as many as are asked for, or all that there are.
func (t *tail) take(count int) string {
	s := t.text[:min(count, len(t.text))]
	t.text = t.text[len(s):]
	return s
}

// value reads one that stands so deep. What is deeper than may be is left, so
// that no text makes many calls within one another.
func (t *tail) value(depth int) (api.Value, bool) {
	switch {
	case depth > api.MaxDepth:
		return api.Value{}, false
	case t.skip("unit"):
		return api.Value{}, true
	case t.skip("false"):
		return api.Value{Kind: api.Bool}, true
	case t.skip("true"):
		return api.Value{Kind: api.Bool, N: 1}, true
	case t.skip(`"`):
		s, ok := t.bytes()
		return api.Value{Kind: api.Bytes, S: s}, ok
	case t.skip("["):
		return t.elements(api.Array, "]", depth)
	case t.skip("{"):
		return t.elements(api.Record, "}", depth)
	}
	return t.number()
}

func (t *tail) number() (api.Value, bool) {
	count := len(t.text) - len(strings.TrimLeft(t.text, "-0123456789"))
	n, err := strconv.ParseInt(t.take(count), 10, 64)
	return api.Value{Kind: api.Int, N: n}, err == nil
}

// elements reads those of an array or a record, up to its end.
func (t *tail) elements(kind int, end string, depth int) (api.Value, bool) {
	v := api.Value{Kind: kind}
	for !t.skip(end) {
		if len(v.L) > 0 && !t.skip(", ") {
			return api.Value{}, false
		}
		if kind == api.Record {
			key, ok := t.key()
			if !ok {
				return api.Value{}, false
			}
			v.K = append(v.K, key)
		}
		x, ok := t.value(depth + 1)
		if !ok {
			return api.Value{}, false
		}
		v.L = append(v.L, x)
	}
	return v, true
}

func (t *tail) key() (string, bool) {
	if !t.skip(`"`) {
		return "", false
	}
	s, ok := t.bytes()
	return s, ok && t.skip(": ")
}

// bytes reads what stands between quotes, and the second one.
func (t *tail) bytes() (string, bool) {
	var out strings.Builder
	for !t.skip(`"`) {
		s, ok := t.char()
		if !ok {
			return "", false
		}
		out.WriteString(s)
	}
	return out.String(), true
}

// char reads one byte: by its digits, or as it stands, with or without a `\`
// ahead.
func (t *tail) char() (string, bool) {
	if t.skip(`\x`) {
		return Unhex(t.take(2))
	}
	t.skip(`\`)
	s := t.take(1)
	return s, s != ""
}
