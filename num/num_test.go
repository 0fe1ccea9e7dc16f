package num_test

import (
	"bytes"
	"math"
	"math/big"
	"slices"
	"strings"
	"testing"

	"scruple/api"
	"scruple/num"
)

// nines: the same byte nine times, and others behind it.
func nines(c byte, behind ...byte) []byte {
	return append(bytes.Repeat([]byte{c}, 9), behind...)
}

// edgeUints are numbers on both sides of each length, and between them.
func edgeUints() []uint64 {
	l := []uint64{0, 1, 2, 300, 12345, math.MaxInt64, math.MaxInt64 + 1, math.MaxUint64 - 1, math.MaxUint64}
	for i := 1; i < 10; i++ {
		p := uint64(1) << (7 * i)
		l = append(l, p-1, p, p+1)
	}
	slices.Sort(l)
	return slices.Compact(l)
}

func edgeInts() []int64 {
	l := []int64{math.MinInt64, math.MinInt64 + 1, math.MaxInt64, math.MaxInt64 - 1}
	for _, n := range edgeUints() {
		if n <= math.MaxInt64 {
			l = append(l, int64(n), -int64(n))
		}
	}
	slices.Sort(l)
	return slices.Compact(l)
}

func edgeTexts() []string {
	return []string{"", "a", "ab", "\x00", "\xff\x80\x00", "gr\u00fc\u00df", strings.Repeat("x", 127), strings.Repeat("y", 128), strings.Repeat("z", 20000)}
}

// wantUint works a number's bytes out from the chapter's words, with numbers of any size.
func wantUint(n *big.Int) []byte {
	var l []byte
	base := big.NewInt(128)
	rest, low := new(big.Int).Set(n), new(big.Int)
	for {
		rest.DivMod(rest, base, low)
		if rest.Sign() == 0 {
			return append(l, byte(low.Int64()))
		}
		l = append(l, byte(low.Int64()+128))
	}
}

// wantFold is 2 n, or -2 n - 1 if n is below 0.
func wantFold(n int64) *big.Int {
	b := big.NewInt(n)
	if n < 0 {
		b.Mul(b, big.NewInt(-2))
		return b.Sub(b, big.NewInt(1))
	}
	return b.Mul(b, big.NewInt(2))
}

func TestP11PutUintExamples(t *testing.T) {
	for _, x := range []struct {
		b    []byte
		n    uint64
		want []byte
	}{
		{nil, 0, []byte{0x00}},
		{nil, 127, []byte{0x7f}},
		{nil, 128, []byte{0x80, 0x01}},
		{[]byte{0x07}, 300, []byte{0x07, 0xac, 0x02}},
		{nil, 16383, []byte{0xff, 0x7f}},
		{nil, 16384, []byte{0x80, 0x80, 0x01}},
		{nil, 1<<63 - 1, append(bytes.Repeat([]byte{0xff}, 8), 0x7f)},
		{nil, 1 << 63, nines(0x80, 0x01)},
		{nil, math.MaxUint64, nines(0xff, 0x01)},
	} {
		if got := num.PutUint(x.b, x.n); !bytes.Equal(got, x.want) {
			t.Errorf("PutUint(%x, %d) = %x, want %x", x.b, x.n, got, x.want)
		}
	}
}

func TestP11PutUintAllLengths(t *testing.T) {
	for _, n := range edgeUints() {
		want := append([]byte("ahead"), wantUint(new(big.Int).SetUint64(n))...)
		if got := num.PutUint([]byte("ahead"), n); !bytes.Equal(got, want) {
			t.Errorf("PutUint(ahead, %d) = %x, want %x", n, got, want)
		}
	}
}

func TestP11PutInt(t *testing.T) {
	for _, x := range []struct {
		n    int64
		want []byte
	}{
		{0, []byte{0x00}},
		{-1, []byte{0x01}},
		{1, []byte{0x02}},
		{-2, []byte{0x03}},
		{63, []byte{0x7e}},
		{-64, []byte{0x7f}},
		{64, []byte{0x80, 0x01}},
		{-65, []byte{0x81, 0x01}},
		{math.MaxInt64, append([]byte{0xfe}, nines(0xff, 0x01)[1:]...)},
		{math.MinInt64, nines(0xff, 0x01)},
	} {
		if got := num.PutInt(nil, x.n); !bytes.Equal(got, x.want) {
			t.Errorf("PutInt(none, %d) = %x, want %x", x.n, got, x.want)
		}
	}
	for _, n := range edgeInts() {
		want := append([]byte{0x07, 0x80}, wantUint(wantFold(n))...)
		if got := num.PutInt([]byte{0x07, 0x80}, n); !bytes.Equal(got, want) {
			t.Errorf("PutInt(07 80, %d) = %x, want %x", n, got, want)
		}
	}
}

func TestP11PutText(t *testing.T) {
	if got := num.PutText(nil, "ab"); !bytes.Equal(got, []byte{0x02, 0x61, 0x62}) {
		t.Errorf("PutText(none, ab) = %x", got)
	}
	if got := num.PutText(nil, ""); !bytes.Equal(got, []byte{0x00}) {
		t.Errorf("PutText(none, empty) = %x", got)
	}
	for _, s := range edgeTexts() {
		want := "\x09" + string(wantUint(big.NewInt(int64(len(s))))) + s
		if got := num.PutText([]byte{9}, s); string(got) != want {
			t.Errorf("PutText(09, %d bytes) = %x, want %x", len(s), got, want)
		}
	}
}

// puts are the calls that lay something behind b, each with something short and something long.
func puts() map[string]func([]byte) []byte {
	return map[string]func([]byte) []byte{
		"PutUint 0":      func(b []byte) []byte { return num.PutUint(b, 0) },
		"PutUint 2^64-1": func(b []byte) []byte { return num.PutUint(b, math.MaxUint64) },
		"PutInt 0":       func(b []byte) []byte { return num.PutInt(b, 0) },
		"PutInt -2^63":   func(b []byte) []byte { return num.PutInt(b, math.MinInt64) },
		"PutText empty":  func(b []byte) []byte { return num.PutText(b, "") },
		"PutText long":   func(b []byte) []byte { return num.PutText(b, strings.Repeat("t", 300)) },
	}
}

// fill writes a byte over all of b, and over its spare room.
func fill(b []byte, c byte) {
	b = b[:cap(b)]
	for i := range b {
		b[i] = c
	}
}

func TestP11NewMemory(t *testing.T) {
	for name, put := range puts() {
		for _, length := range []int{0, 1, 3, 64} {
			for _, spare := range []int{0, 1, 10, 400} {
				whole := make([]byte, length+spare)
				fill(whole, 0xa5)
				was := bytes.Clone(whole)
				b := whole[:length]

				first := put(b)
				if !bytes.Equal(whole, was) {
					t.Fatalf("%s of %d bytes with room for %d: wrote into what it was handed", name, length, spare)
				}
				keep := bytes.Clone(first)
				second := put(b)
				fill(second, 0x5a)
				if !bytes.Equal(first, keep) {
					t.Errorf("%s of %d bytes with room for %d: two answers share memory", name, length, spare)
				}
				fill(first, 0x5a)
				if !bytes.Equal(whole, was) {
					t.Errorf("%s of %d bytes with room for %d: the answer shares memory with b", name, length, spare)
				}
				first = put(b)
				fill(whole, 0x11)
				if !bytes.Equal(first, keep) {
					t.Errorf("%s of %d bytes with room for %d: the answer hangs on b afterwards", name, length, spare)
				}
			}
		}
	}
}

func TestP11NilIsEmpty(t *testing.T) {
	for name, put := range puts() {
		if a, b := put(nil), put([]byte{}); !bytes.Equal(a, b) {
			t.Errorf("%s: %x of nil, %x of empty", name, a, b)
		}
	}
}

// reading is a call to Uint, and what it must answer.
type reading struct {
	b    []byte
	at   int
	n    uint64
	next int
	e    api.Errno
}

func uintReadings() []reading {
	return []reading{
		{[]byte{0xac, 0x02}, 0, 300, 2, api.OK},
		{[]byte{0xac, 0x02}, 1, 2, 2, api.OK},
		{[]byte{0xac, 0x02}, 2, 0, 0, api.ErrNumEnd},
		{[]byte{0xac, 0x02}, 3, 0, 0, api.ErrNumPlace},
		{[]byte{0xac, 0x02}, -1, 0, 0, api.ErrNumPlace},
		{[]byte{0xac, 0x02}, math.MaxInt, 0, 0, api.ErrNumPlace},
		{[]byte{0xac, 0x02}, math.MinInt, 0, 0, api.ErrNumPlace},
		{nil, 0, 0, 0, api.ErrNumEnd},
		{[]byte{}, 0, 0, 0, api.ErrNumEnd},
		{nil, 1, 0, 0, api.ErrNumPlace},
		{nil, -1, 0, 0, api.ErrNumPlace},
		{[]byte{0x00}, 0, 0, 1, api.OK},
		{[]byte{0x7f}, 0, 127, 1, api.OK},
		{[]byte{0x80, 0x01}, 0, 128, 2, api.OK},
		{[]byte{0x80}, 0, 0, 0, api.ErrNumEnd},
		{[]byte{0x80, 0x00}, 0, 0, 0, api.ErrNumForm},
		{[]byte{0xff, 0x00}, 0, 0, 0, api.ErrNumForm},
		{[]byte{0x80, 0x80, 0x00}, 0, 0, 0, api.ErrNumForm},
		{[]byte{0x80, 0x80, 0x80}, 0, 0, 0, api.ErrNumEnd},
		{[]byte{0x00, 0x00}, 0, 0, 1, api.OK},
		{[]byte{0x80, 0x00, 0x05}, 1, 0, 2, api.OK},
		{[]byte{0x07, 0xac, 0x02, 0xff}, 1, 300, 3, api.OK},
		{bytes.Repeat([]byte{0xff}, 8), 0, 0, 0, api.ErrNumEnd},
		{nines(0xff), 0, 0, 0, api.ErrNumEnd},
		{nines(0xff, 0x01), 0, math.MaxUint64, 10, api.OK},
		{nines(0xff, 0x01), 1, 1<<57 - 1, 10, api.OK},
		{nines(0x80, 0x01), 0, 1 << 63, 10, api.OK},
		{nines(0xff, 0x02), 0, 0, 0, api.ErrNumForm},
		{nines(0xff, 0x00), 0, 0, 0, api.ErrNumForm},
		{nines(0xff, 0xff), 0, 0, 0, api.ErrNumForm},
		{nines(0xff, 0x80, 0x01), 0, 0, 0, api.ErrNumForm},
		{nines(0xff, 0x81, 0x00), 0, 0, 0, api.ErrNumForm},
		{nines(0xff, 0x01, 0x80), 0, math.MaxUint64, 10, api.OK},
	}
}

func TestP12Uint(t *testing.T) {
	for _, x := range uintReadings() {
		if n, next, e := num.Uint(x.b, x.at); n != x.n || next != x.next || e != x.e {
			t.Errorf("Uint(%x, %d) = %d, %d, %v, want %d, %d, %v", x.b, x.at, n, next, e, x.n, x.next, x.e)
		}
	}
}

func TestP12TenthByte(t *testing.T) {
	for c := range 256 {
		want := reading{nines(0x80, byte(c)), 0, 0, 0, api.ErrNumForm}
		if c == 1 {
			want.n, want.next, want.e = 1<<63, 10, api.OK
		}
		for _, behind := range [][]byte{nil, {0x00}, {0x01}, {0xff, 0xff}} {
			b := append(bytes.Clone(want.b), behind...)
			if n, next, e := num.Uint(b, 0); n != want.n || next != want.next || e != want.e {
				t.Errorf("Uint(%x, 0) = %d, %d, %v, want %d, %d, %v", b, n, next, e, want.n, want.next, want.e)
			}
		}
	}
}

// readAsTold reads a number as P1.2 tells it, with numbers of any size.
func readAsTold(b []byte, at int) (uint64, int, api.Errno) {
	if at < 0 || at > len(b) {
		return 0, 0, api.ErrNumPlace
	}
	n, unit := new(big.Int), big.NewInt(1)
	for count := 1; ; count++ {
		if at == len(b) {
			return 0, 0, api.ErrNumEnd
		}
		c := int64(b[at])
		if count == 10 && c > 1 || c == 0 && count > 1 {
			return 0, 0, api.ErrNumForm
		}
		at++
		n.Add(n, new(big.Int).Mul(unit, big.NewInt(c%128)))
		unit.Mul(unit, big.NewInt(128))
		if c < 128 {
			return n.Uint64(), at, api.OK
		}
	}
}

// rows calls f with all rows of 0 to 3 bytes that are made of some bytes, also behind nine and behind seven others.
func rows(f func(b []byte)) {
	set := []byte{0x00, 0x01, 0x02, 0x3f, 0x40, 0x7f, 0x80, 0x81, 0xc0, 0xfe, 0xff}
	heads := [][]byte{nil, nines(0x80), nines(0xff), nines(0xff)[:7], nines(0xc1)[:8]}
	for _, head := range heads {
		f(head)
		for _, x := range set {
			f(append(bytes.Clone(head), x))
			for _, y := range set {
				f(append(bytes.Clone(head), x, y))
				for _, z := range set {
					f(append(bytes.Clone(head), x, y, z))
				}
			}
		}
	}
}

func TestP12UintManyRows(t *testing.T) {
	rows(func(b []byte) {
		for at := -2; at <= len(b)+2; at++ {
			n, next, e := num.Uint(b, at)
			if wn, wnext, we := readAsTold(b, at); n != wn || next != wnext || e != we {
				t.Errorf("Uint(%x, %d) = %d, %d, %v, want %d, %d, %v", b, at, n, next, e, wn, wnext, we)
			}
		}
	})
}

func TestP12Int(t *testing.T) {
	for _, x := range []struct {
		b    []byte
		at   int
		n    int64
		next int
		e    api.Errno
	}{
		{[]byte{0x00}, 0, 0, 1, api.OK},
		{[]byte{0x01}, 0, -1, 1, api.OK},
		{[]byte{0x02}, 0, 1, 1, api.OK},
		{[]byte{0x7f}, 0, -64, 1, api.OK},
		{[]byte{0x80, 0x01}, 0, 64, 2, api.OK},
		{[]byte{0x05, 0x03}, 1, -2, 2, api.OK},
		{nines(0xff, 0x01), 0, math.MinInt64, 10, api.OK},
		{append([]byte{0xfe}, nines(0xff, 0x01)[1:]...), 0, math.MaxInt64, 10, api.OK},
	} {
		if n, next, e := num.Int(x.b, x.at); n != x.n || next != x.next || e != x.e {
			t.Errorf("Int(%x, %d) = %d, %d, %v, want %d, %d, %v", x.b, x.at, n, next, e, x.n, x.next, x.e)
		}
	}
}

func TestP12IntLikeUint(t *testing.T) {
	rows(func(b []byte) {
		for at := -2; at <= len(b)+2; at++ {
			u, unext, ue := readAsTold(b, at)
			n, next, e := num.Int(b, at)
			if next != unext || e != ue {
				t.Errorf("Int(%x, %d) = %d, %d, %v, want place %d, %v", b, at, n, next, e, unext, ue)
			}
			if e == api.OK && wantFold(n).Cmp(new(big.Int).SetUint64(u)) != 0 || e != api.OK && n != 0 {
				t.Errorf("Int(%x, %d) = %d, of the number %d", b, at, n, u)
			}
		}
	})
	for _, at := range []int{math.MinInt, math.MaxInt} {
		if n, next, e := num.Int([]byte{1}, at); n != 0 || next != 0 || e != api.ErrNumPlace {
			t.Errorf("Int(01, %d) = %d, %d, %v", at, n, next, e)
		}
	}
}

func TestP13Text(t *testing.T) {
	ab := []byte{0x02, 0x61, 0x62}
	for _, x := range []struct {
		b        []byte
		at, most int
		s        string
		next     int
		e        api.Errno
	}{
		{ab, 0, 2, "ab", 3, api.OK},
		{ab, 0, 3, "ab", 3, api.OK},
		{ab, 0, math.MaxInt, "ab", 3, api.OK},
		{ab, 0, 1, "", 0, api.ErrNumLong},
		{ab, 0, 0, "", 0, api.ErrNumLong},
		{ab, 0, -1, "", 0, api.ErrNumLong},
		{ab[:2], 0, 2, "", 0, api.ErrNumEnd},
		{ab[:1], 0, 2, "", 0, api.ErrNumEnd},
		{append(ab[:3:3], 0x63), 0, 2, "ab", 3, api.OK},
		{[]byte{0x09, 0x02, 0x00, 0xff, 0x07}, 1, 2, "\x00\xff", 4, api.OK},

		{[]byte{0x00}, 0, 0, "", 1, api.OK},
		{[]byte{0x00}, 0, 5, "", 1, api.OK},
		{[]byte{0x00, 0x41}, 0, 0, "", 1, api.OK},
		{[]byte{0x00}, 0, -1, "", 0, api.ErrNumLong},
		{[]byte{0x00}, 0, math.MinInt, "", 0, api.ErrNumLong},

		// The length's own errors come first, whatever most is.
		{nil, 0, 5, "", 0, api.ErrNumEnd},
		{nil, 0, -1, "", 0, api.ErrNumEnd},
		{ab, 3, -1, "", 0, api.ErrNumEnd},
		{ab, 4, 5, "", 0, api.ErrNumPlace},
		{ab, 4, -1, "", 0, api.ErrNumPlace},
		{ab, -1, 5, "", 0, api.ErrNumPlace},
		{ab, math.MaxInt, 5, "", 0, api.ErrNumPlace},
		{ab, math.MinInt, 5, "", 0, api.ErrNumPlace},
		{[]byte{0x82, 0x00, 0x61, 0x62}, 0, 5, "", 0, api.ErrNumForm},
		{[]byte{0x82, 0x00, 0x61, 0x62}, 0, -1, "", 0, api.ErrNumForm},
		{[]byte{0x82}, 0, -1, "", 0, api.ErrNumEnd},
		{nines(0xff, 0x02), 0, 5, "", 0, api.ErrNumForm},

		// Too long is told ahead of too few bytes.
		{ab[:2], 0, 1, "", 0, api.ErrNumLong},
		{ab[:2], 0, -1, "", 0, api.ErrNumLong},
		{nines(0xff, 0x01), 0, math.MaxInt, "", 0, api.ErrNumLong},
		{nines(0x80, 0x01), 0, math.MaxInt, "", 0, api.ErrNumLong},
		{nines(0xff, 0x01), 0, -1, "", 0, api.ErrNumLong},
		{append(bytes.Repeat([]byte{0xff}, 8), 0x7f), 0, math.MaxInt, "", 0, api.ErrNumEnd},
		{append(bytes.Repeat([]byte{0xff}, 8), 0x7f), 0, math.MaxInt - 1, "", 0, api.ErrNumLong},
	} {
		s, next, e := num.Text(x.b, x.at, x.most)
		if s != x.s || next != x.next || e != x.e {
			t.Errorf("Text(%x, %d, %d) = %q, %d, %v, want %q, %d, %v", x.b, x.at, x.most, s, next, e, x.s, x.next, x.e)
		}
	}
}

func TestP13TextBoundOfTwoBytes(t *testing.T) {
	for _, length := range []int{127, 128, 300} {
		s := strings.Repeat("q", length)
		b := append(wantUint(big.NewInt(int64(length))), s...)
		if got, next, e := num.Text(b, 0, length); got != s || next != len(b) || e != api.OK {
			t.Errorf("Text of %d bytes, at most that: %d bytes, %d, %v", length, len(got), next, e)
		}
		if got, next, e := num.Text(b, 0, length-1); got != "" || next != 0 || e != api.ErrNumLong {
			t.Errorf("Text of %d bytes, at most one less: %d bytes, %d, %v", length, len(got), next, e)
		}
		if got, next, e := num.Text(b[:len(b)-1], 0, length); got != "" || next != 0 || e != api.ErrNumEnd {
			t.Errorf("Text of %d bytes, one missing: %d bytes, %d, %v", length, len(got), next, e)
		}
	}
}

func TestP13TextIsNewMemory(t *testing.T) {
	b := []byte{0x02, 0x61, 0x62}
	s, _, _ := num.Text(b, 0, 2)
	fill(b, 0)
	if s != "ab" {
		t.Errorf("the text is %q when its bytes were written over", s)
	}
}

func TestReadersLeaveTheirBytes(t *testing.T) {
	for _, whole := range [][]byte{{0x02, 0x61, 0x62, 0x99}, nines(0xff, 0x01), {0x80, 0x00, 0x07}} {
		was := bytes.Clone(whole)
		for length := range len(whole) + 1 {
			num.Uint(whole[:length], 0)
			num.Int(whole[:length], 0)
			num.Text(whole[:length], 0, 100)
		}
		if !bytes.Equal(whole, was) {
			t.Errorf("%x became %x by being read", was, whole)
		}
	}
}

func TestP14Sum(t *testing.T) {
	const top = math.MaxInt64
	for _, x := range []struct {
		l  []int64
		n  int64
		ok bool
	}{
		{nil, 0, true},
		{[]int64{}, 0, true},
		{[]int64{0}, 0, true},
		{[]int64{1, 2}, 3, true},
		{[]int64{5, 0, 7, 30}, 42, true},
		{[]int64{top}, top, true},
		{[]int64{top, 0, 0}, top, true},
		{[]int64{0, top}, top, true},
		{[]int64{top - 1, 1}, top, true},
		{[]int64{1 << 62, 1<<62 - 1}, top, true},
		{[]int64{1 << 62, 1 << 62}, 0, false},
		{[]int64{top, 1}, 0, false},
		{[]int64{1, top}, 0, false},
		{[]int64{top - 1, 1, 1}, 0, false},
		{[]int64{top, top}, 0, false},
		{[]int64{top, top, 2}, 0, false}, // comes to 2^64: 0, if it went round
		{[]int64{top, top, 5}, 0, false}, // comes to 3 and is above 0, if it went round
		{[]int64{-1}, 0, false},
		{[]int64{math.MinInt64}, 0, false},
		{[]int64{1, -1}, 0, false},
		{[]int64{-1, 1}, 0, false},
		{[]int64{5, 6, -1, 7}, 0, false},
		{[]int64{5, 6, 7, -1}, 0, false},
		{[]int64{top, -1}, 0, false},
		{[]int64{top, 1, -1}, 0, false},
		{[]int64{-1, top, 1}, 0, false},
	} {
		was := slices.Clone(x.l)
		if n, ok := num.Sum(x.l...); n != x.n || ok != x.ok {
			t.Errorf("Sum(%v) = %d, %v, want %d, %v", x.l, n, ok, x.n, x.ok)
		}
		if !slices.Equal(x.l, was) {
			t.Errorf("Sum wrote into its numbers: %v became %v", was, x.l)
		}
	}
	if n, ok := num.Sum(); n != 0 || !ok {
		t.Errorf("Sum() = %d, %v", n, ok)
	}
	if n, ok := num.Sum(1, 2); n != 3 || !ok {
		t.Errorf("Sum(1, 2) = %d, %v", n, ok)
	}
}

// around calls f with bytes ahead and bytes behind, of which some could pass for a part of a number.
func around(f func(ahead, behind []byte)) {
	for _, ahead := range [][]byte{nil, {0x00}, {0x80}, {0xff, 0xff}, []byte("ahead")} {
		for _, behind := range [][]byte{nil, {0x00}, {0x01}, {0x80}, {0xff}, []byte("behind")} {
			f(ahead, behind)
		}
	}
}

func TestP15ReadBack(t *testing.T) {
	around(func(ahead, behind []byte) {
		for _, n := range edgeUints() {
			b := num.PutUint(ahead, n)
			got, next, e := num.Uint(append(bytes.Clone(b), behind...), len(ahead))
			if got != n || next != len(b) || e != api.OK {
				t.Errorf("Uint of PutUint(%x, %d), %x behind: %d, %d, %v", ahead, n, behind, got, next, e)
			}
		}
		for _, n := range edgeInts() {
			b := num.PutInt(ahead, n)
			got, next, e := num.Int(append(bytes.Clone(b), behind...), len(ahead))
			if got != n || next != len(b) || e != api.OK {
				t.Errorf("Int of PutInt(%x, %d), %x behind: %d, %d, %v", ahead, n, behind, got, next, e)
			}
		}
		for _, s := range edgeTexts() {
			b := num.PutText(ahead, s)
			got, next, e := num.Text(append(bytes.Clone(b), behind...), len(ahead), len(s))
			if got != s || next != len(b) || e != api.OK {
				t.Errorf("Text of PutText(%x, %d bytes), %x behind: %d bytes, %d, %v", ahead, len(s), behind, len(got), next, e)
			}
		}
	})
}

func TestP15WrittenAsRead(t *testing.T) {
	read := 0
	rows(func(b []byte) {
		for at := range len(b) + 1 {
			n, next, e := num.Uint(b, at)
			if e != api.OK {
				continue
			}
			read++
			if again := num.PutUint(b[:at], n); !bytes.Equal(again, b[:next]) {
				t.Errorf("%x at %d is read as %d, and written as %x", b, at, n, again)
			}
			if i, _, _ := num.Int(b, at); !bytes.Equal(num.PutInt(b[:at], i), b[:next]) {
				t.Errorf("%x at %d is read as %d with a sign, and written as %x", b, at, i, num.PutInt(b[:at], i))
			}
		}
	})
	if read == 0 {
		t.Error("no number was read")
	}
}

func TestP15NoBeginningOfAnother(t *testing.T) {
	l := edgeUints()
	for n := range uint64(300) {
		l = append(l, n)
	}
	slices.Sort(l)
	l = slices.Compact(l)
	for _, a := range l {
		x := num.PutUint(nil, a)
		for _, b := range l {
			if a != b && bytes.HasPrefix(num.PutUint(nil, b), x) {
				t.Errorf("the bytes of %d begin with those of %d", b, a)
			}
		}
	}
}

// FuzzReadAndWrite holds the readers against the chapter's words, and the writers against the readers.
func FuzzReadAndWrite(f *testing.F) {
	f.Add([]byte{0xac, 0x02}, 0, 5)
	f.Add(nines(0xff, 0x01), 0, -1)
	f.Add([]byte{0x02, 0x61, 0x62}, 0, 2)
	f.Fuzz(func(t *testing.T, b []byte, at, most int) {
		n, next, e := num.Uint(b, at)
		if wn, wnext, we := readAsTold(b, at); n != wn || next != wnext || e != we {
			t.Fatalf("Uint(%x, %d) = %d, %d, %v, want %d, %d, %v", b, at, n, next, e, wn, wnext, we)
		}
		if e == api.OK && !bytes.Equal(num.PutUint(b[:at], n), b[:next]) {
			t.Fatalf("Uint(%x, %d) = %d is written otherwise", b, at, n)
		}
		if s, end, e := num.Text(b, at, most); e == api.OK && !bytes.Equal(num.PutText(b[:at], s), b[:end]) {
			t.Fatalf("Text(%x, %d, %d) = %q is written otherwise", b, at, most, s)
		}
	})
}
