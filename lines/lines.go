// Package lines reads what lines of text are made of, for asm and shell: words, numbers, bytes by their digits, values.
// Their chapters tell it ('Words').
package lines

import (
	"strconv"
	"strings"
)

// blank is what parts a line's words; no other byte does.
const blank = " "

const digits = "0123456789abcdef"

// Silent: does a line say nothing?
func Silent(line string) bool {
	line = strings.TrimLeft(line, blank)
	return line == "" || line[0] == ';'
}

// Words are a line's.
func Words(line string) []string {
	return strings.FieldsFunc(line, func(c rune) bool { return c == ' ' })
}

// Cut is a line's first word, and all that stands behind the blanks behind it, up
// to the last byte that is no blank. They are pieces of the line.
func Cut(line string) (word, rest string) {
	word, rest, _ = strings.Cut(strings.Trim(line, blank), blank)
	return word, strings.TrimLeft(rest, blank)
}

// Number is what a word says: of at most nine digits, in its one form.
func Number(word string) (int, bool) {
	n, err := strconv.Atoi(word)
	if err != nil || n < 0 || len(word) > 9 || strconv.Itoa(n) != word {
		return 0, false
	}
	return n, true
}

// Hex are bytes by their digits.
func Hex(s string) string {
	var out strings.Builder
	for i := range len(s) {
		out.WriteByte(digits[s[i]>>4])
		out.WriteByte(digits[s[i]&15])
	}
	return out.String()
}

// Unhex are the bytes that digits tell: at least one.
func Unhex(word string) (string, bool) {
	if len(word) == 0 || len(word)%2 != 0 {
		return "", false
	}
	var out strings.Builder
	for i := 0; i < len(word); i += 2 {
		high, low := strings.IndexByte(digits, word[i]), strings.IndexByte(digits, word[i+1])
		if high < 0 || low < 0 {
			return "", false
		}
		out.WriteByte(byte(high<<4 | low))
	}
	return out.String(), true
}
