// Package num is layer 1: numbers and texts as bytes, each in one way only. See shared/doc/01-num.md.
package num

import (
	"math"

	"scruple/api"
)

const (
	groupBits  = 7
	more       = 1 << groupBits // the bit that says that another group follows
	mostGroups = 10             // 64 bits in groups of seven: nine whole ones, and one bit
	lastTop    = 1              // so the tenth group holds no more than this
)

// PutUint lays a number behind the bytes of b, in new memory.
func PutUint(b []byte, n uint64) []byte {
	return layUint(withRoom(b, mostGroups), n)
}

// Uint is the number at a place, and the place behind it.
func Uint(b []byte, at int) (uint64, int, api.Errno) {
	if at < 0 || at > len(b) {
		return 0, 0, api.ErrNumPlace
	}
	rest := b[at:]
	var n uint64
	for i := range mostGroups {
		if i == len(rest) {
			return 0, 0, api.ErrNumEnd
		}
		c := rest[i]
		if !mayStand(c, i) {
			return 0, 0, api.ErrNumForm
		}
		n |= uint64(c%more) << (groupBits * i)
		if c < more {
			return n, at + i + 1, api.OK
		}
	}
	// Not reached: a tenth byte is the last one, or may not stand.
	return 0, 0, api.ErrNumForm
}

// PutInt lays a number with a sign behind the bytes of b, in new memory.
func PutInt(b []byte, n int64) []byte {
	return PutUint(b, fold(n))
}

// Int is the number with a sign at a place, and the place behind it.
func Int(b []byte, at int) (int64, int, api.Errno) {
	n, next, e := Uint(b, at)
	if e != api.OK {
		return 0, 0, e
	}
	return unfold(n), next, api.OK
}

// PutText lays a text, with its length ahead, behind the bytes of b, in new memory.
func PutText(b []byte, s string) []byte {
	return append(layUint(withRoom(b, mostGroups+len(s)), uint64(len(s))), s...)
}

// Text is the text of at most so many bytes at a place, and the place behind it.
func Text(b []byte, at, most int) (string, int, api.Errno) {
	n, next, e := Uint(b, at)
	if e != api.OK {
		return "", 0, e
	}
	if most < 0 || n > uint64(most) {
		return "", 0, api.ErrNumLong
	}
	if n > uint64(len(b)-next) {
		return "", 0, api.ErrNumEnd
	}
	end := next + int(n)
	return string(b[next:end]), end, api.OK
}

// Sum is what numbers from 0 on come to together; false: one is below 0, or they come to too much.
func Sum(l ...int64) (int64, bool) {
	var sum int64
	for _, n := range l {
		if n < 0 || n > math.MaxInt64-sum {
			return 0, false
		}
		sum += n
	}
	return sum, true
}

// withRoom copies b, so that what is laid behind it never lands in the spare room of what was handed in.
func withRoom(b []byte, room int) []byte {
	return append(make([]byte, 0, len(b)+room), b...)
}

// layUint writes into the spare room of b: it is for memory of our own alone.
func layUint(b []byte, n uint64) []byte {
	for range mostGroups - 1 {
		if n < more {
			break
		}
		b = append(b, byte(n%more)|more)
		n >>= groupBits
	}
	return append(b, byte(n))
}

// mayStand: a last group of 0 could be left out, and a tenth one above lastTop is past 64 bits; either would be a second form, or none.
func mayStand(c byte, i int) bool {
	if i == 0 {
		return true
	}
	return c != 0 && (i < mostGroups-1 || c <= lastTop)
}

// fold takes signs in turn (0, -1, 1, -2, ..), so that numbers near 0 stay short on both sides.
func fold(n int64) uint64 {
	if n < 0 {
		return 2*uint64(^n) + 1
	}
	return 2 * uint64(n)
}

func unfold(n uint64) int64 {
	half := int64(n / 2)
	if n%2 == 1 {
		return ^half
	}
	return half
}
