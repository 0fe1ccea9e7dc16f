package hash_test

import (
	"bytes"
	"crypto/sha256"
	"encoding/hex"
	"math/rand"
	"slices"
	"strings"
	"testing"

	"scruple/api"
	"scruple/hash"
)

// examples are messages and their digests' digits: the chapter's, and others that were published with SHA-256.
var examples = []struct{ message, digits string }{
	{"", "e3b0c44298fc1c149afbf4c8996fb92427ae41e4649b934ca495991b7852b855"},
	{"abc", "ba7816bf8f01cfea414140de5dae2223b00361a396177a9cb410ff61f20015ad"},
	{"abcdbcdecdefdefgefghfghighijhijkijkljklmklmnlmnomnopnopq", "248d6a61d20638b8e5c026930c3e6039a33ce45964ff2167f6ecedd419db06c1"},
	{"abcdefghbcdefghicdefghijdefghijkefghijklfghijklmghijklmnhijklmnoijklmnopjklmnopqklmnopqrlmnopqrsmnopqrstnopqrstu", "cf5b16a778af8380036ce59e7b0492370b249b11e8f07a51afac45037afee9d1"},
	{strings.Repeat("a", 1000000), "cdc76e5c9914fb9281a1c7e284d73e67f1809a48a497200e046d39ccc7112cd0"},
}

// edgeLengths stand about the ends of blocks, and about the last place at which a length has room.
var edgeLengths = []int{0, 1, 2, 31, 54, 55, 56, 57, 62, 63, 64, 65, 118, 119, 120, 121, 127, 128, 129, 183, 184, 191, 192, 193, 300}

// message is so many bytes, of all values.
func message(length int) []byte {
	b := make([]byte, length)
	rand.New(rand.NewSource(int64(length))).Read(b)
	return b
}

// unalike tells a digest that is not the one of a message.
func unalike(t *testing.T, got [32]byte, b []byte, what string) {
	t.Helper()
	if want := sha256.Sum256(b); got != want {
		t.Errorf("%s of %d bytes: %x, want %x", what, len(b), got, want)
	}
}

func TestP21SumExamples(t *testing.T) {
	for _, x := range examples {
		got := hash.Sum([]byte(x.message))
		if hex.EncodeToString(got[:]) != x.digits {
			t.Errorf("Sum of %d bytes = %x, want %s", len(x.message), got, x.digits)
		}
	}
}

func TestP21SumOfNone(t *testing.T) {
	want := sha256.Sum256(nil)
	for _, b := range [][]byte{nil, {}, []byte("abc")[:0]} {
		if got := hash.Sum(b); got != want {
			t.Errorf("Sum of no bytes = %x, want %x", got, want)
		}
	}
}

func TestP21SumOfEachLength(t *testing.T) {
	for length := range 400 {
		b := message(length)
		unalike(t, hash.Sum(b), b, "Sum")
	}
	for _, length := range []int{4095, 4096, 4097, 65535, 65536, 65537} {
		b := message(length)
		unalike(t, hash.Sum(b), b, "Sum")
	}
}

func TestP21SumOfLikeBytes(t *testing.T) {
	for _, c := range []byte{0x00, 0x01, 0x7f, 0x80, 0xff} {
		for _, length := range edgeLengths {
			b := bytes.Repeat([]byte{c}, length)
			unalike(t, hash.Sum(b), b, "Sum")
		}
	}
}

// What would be the padding of a message is another message, if it was handed in.
func TestP21SumOfPaddedMessages(t *testing.T) {
	padded := append([]byte("abc\x80"), make([]byte, 60)...)
	padded[63] = 24
	for _, b := range [][]byte{padded, padded[:63], padded[:4], padded[:5]} {
		unalike(t, hash.Sum(b), b, "Sum")
	}
}

// A message of 2^29 bytes has 2^32 bits: its length needs more than one word.
func TestP21LengthOfMoreThanAWord(t *testing.T) {
	const pieces = 1 << 9
	piece := bytes.Repeat([]byte("0123456789abcdef"), 1<<16)
	h, want := hash.New(), sha256.New()
	for i := range pieces {
		if n := h.Write(piece); n != (i+1)<<20 {
			t.Fatalf("Write tells %d bytes behind %d", n, (i+1)<<20)
		}
		want.Write(piece)
	}
	if got := h.Sum(); !bytes.Equal(got[:], want.Sum(nil)) {
		t.Errorf("Sum of 2^29 bytes = %x, want %x", got, want.Sum(nil))
	}
}

func TestP22NewHasTakenNothing(t *testing.T) {
	first := hash.New()
	if n := first.Write(nil); n != 0 {
		t.Errorf("a new Hash has taken %d bytes", n)
	}
	unalike(t, first.Sum(), nil, "Sum of a new Hash")
	first.Write([]byte("something"))
	unalike(t, hash.New().Sum(), nil, "Sum of a second new Hash")
}

func TestP22CopyGoesItsOwnWay(t *testing.T) {
	for _, length := range edgeLengths {
		head := message(length)
		for _, more := range edgeLengths {
			one := bytes.Repeat([]byte{'h'}, more)
			two := bytes.Repeat([]byte{'g'}, more)
			h := hash.New()
			h.Write(head)
			g := h.Copy()
			unalike(t, g.Sum(), head, "Sum of a copy")
			if n := h.Write(one); n != length+more {
				t.Errorf("Write of %d bytes behind %d: %d", more, length, n)
			}
			unalike(t, g.Sum(), head, "Sum of a copy whose first went on")
			if n := g.Write(two); n != length+more {
				t.Errorf("a copy's Write of %d bytes behind %d: %d", more, length, n)
			}
			unalike(t, h.Sum(), slices.Concat(head, one), "Sum of the first")
			unalike(t, g.Sum(), slices.Concat(head, two), "Sum of the copy")
		}
	}
}

func TestP22CopyOfACopy(t *testing.T) {
	h := hash.New()
	h.Write([]byte("a"))
	g := h.Copy()
	g.Write([]byte("b"))
	f := g.Copy()
	f.Write([]byte("c"))
	g.Write([]byte("x"))
	unalike(t, h.Sum(), []byte("a"), "Sum of the first")
	unalike(t, g.Sum(), []byte("abx"), "Sum of the copy")
	unalike(t, f.Sum(), []byte("abc"), "Sum of the copy's copy")
	if h == g || g == f {
		t.Error("a copy is the Hash that it was taken of")
	}
}

func TestP22NilHash(t *testing.T) {
	var h *hash.Hash
	for _, b := range [][]byte{nil, {}, []byte("x"), message(300)} {
		if n := h.Write(b); n != 0 {
			t.Errorf("a nil Hash's Write of %d bytes = %d", len(b), n)
		}
	}
	if d := h.Sum(); d != [32]byte{} {
		t.Errorf("a nil Hash's Sum = %x", d)
	}
	if g := h.Copy(); g != nil {
		t.Errorf("a nil Hash's Copy = %v", g)
	}
}

func TestP23Example(t *testing.T) {
	h := hash.New()
	a := h.Write([]byte("a"))
	none := h.Write(nil)
	g := h.Copy()
	bc := h.Write([]byte("bc"))
	xyz := g.Write([]byte("xyz"))
	if a != 1 || none != 1 || bc != 3 || xyz != 4 {
		t.Errorf("Write told %d, %d, %d, %d, want 1, 1, 3, 4", a, none, bc, xyz)
	}
	if h.Sum() != hash.Sum([]byte("abc")) || g.Sum() != hash.Sum([]byte("axyz")) {
		t.Errorf("Sum = %x, %x", h.Sum(), g.Sum())
	}
}

// writePieces writes b in pieces of these lengths, again and again, and tells if Write told otherwise than how many there were.
func writePieces(t *testing.T, h *hash.Hash, b []byte, lengths ...int) {
	t.Helper()
	for at, i := 0, 0; at < len(b); i++ {
		end := min(at+lengths[i%len(lengths)], len(b))
		if n := h.Write(b[at:end]); n != end {
			t.Fatalf("Write tells %d behind %d bytes, in pieces of %v", n, end, lengths)
		}
		at = end
	}
}

func TestP23Pieces(t *testing.T) {
	cuts := [][]int{{1}, {2}, {7}, {63}, {64}, {65}, {128}, {1, 0}, {0, 64, 0}, {0, 0, 55, 9}, {1, 63}, {63, 1}, {3, 0, 130, 1}, {56, 8, 0}, {1000}}
	for _, length := range edgeLengths {
		b := message(length)
		for _, lengths := range cuts {
			h := hash.New()
			writePieces(t, h, b, lengths...)
			unalike(t, h.Sum(), b, "Sum of pieces")
		}
	}
}

func TestP23TwoPiecesOfEachLength(t *testing.T) {
	b := message(200)
	for end := range len(b) + 1 {
		for cut := range end + 1 {
			h := hash.New()
			if n, m := h.Write(b[:cut]), h.Write(b[cut:end]); n != cut || m != end {
				t.Fatalf("Write of %d and of %d bytes: %d, %d", cut, end-cut, n, m)
			}
			unalike(t, h.Sum(), b[:end], "Sum of two pieces")
		}
	}
}

func TestP23WriteOfNoBytes(t *testing.T) {
	for _, length := range edgeLengths {
		b := message(length)
		h := hash.New()
		h.Write(b)
		for _, none := range [][]byte{nil, {}, b[:0]} {
			if n := h.Write(none); n != length {
				t.Errorf("Write of no bytes behind %d: %d", length, n)
			}
			unalike(t, h.Sum(), b, "Sum behind a Write of no bytes")
		}
	}
}

func TestP23GoesOnBehindItsSum(t *testing.T) {
	b := message(300)
	h := hash.New()
	for i := range b {
		unalike(t, h.Sum(), b[:i], "Sum")
		unalike(t, h.Sum(), b[:i], "Sum again")
		if n := h.Write(b[i : i+1]); n != i+1 {
			t.Fatalf("Write tells %d behind %d bytes", n, i+1)
		}
	}
	unalike(t, h.Sum(), b, "Sum")
}

func TestP24Hex(t *testing.T) {
	var zero, rising, high [32]byte
	for i := range rising {
		rising[i] = byte(7 * i)
		high[i] = byte(0xff - i)
	}
	for _, x := range []struct {
		d    [32]byte
		want string
	}{
		{zero, strings.Repeat("0", 64)},
		{rising, "00070e151c232a31383f464d545b626970777e858c939aa1a8afb6bdc4cbd2d9"},
		{high, "fffefdfcfbfaf9f8f7f6f5f4f3f2f1f0efeeedecebeae9e8e7e6e5e4e3e2e1e0"},
		{[32]byte{0: 0x12, 31: 0xab}, "12" + strings.Repeat("0", 60) + "ab"},
	} {
		if got := hash.Hex(x.d); got != x.want {
			t.Errorf("Hex(%x) = %s, want %s", x.d[:], got, x.want)
		}
	}
}

func TestP24HexOfEachByte(t *testing.T) {
	for place := range 32 {
		for c := range 256 {
			var d [32]byte
			d[place] = byte(c)
			if got, want := hash.Hex(d), hex.EncodeToString(d[:]); got != want {
				t.Fatalf("Hex with the byte %d at %d = %s, want %s", c, place, got, want)
			}
		}
	}
}

// refused holds Unhex to its error, and to no digest beside it.
func refused(t *testing.T, s string) {
	t.Helper()
	if d, e := hash.Unhex(s); d != [32]byte{} || e != api.ErrHashHex {
		t.Errorf("Unhex(%q) = %x, %v, want ErrHashHex", s, d, e)
	}
}

func TestP25Unhex(t *testing.T) {
	for _, x := range []struct {
		s    string
		want [32]byte
	}{
		{strings.Repeat("0", 64), [32]byte{}},
		{strings.Repeat("0", 63) + "1", [32]byte{31: 0x01}},
		{"10" + strings.Repeat("0", 62), [32]byte{0: 0x10}},
		{"ba7816bf8f01cfea414140de5dae2223b00361a396177a9cb410ff61f20015ad", hash.Sum([]byte("abc"))},
		{strings.Repeat("f", 64), [32]byte(bytes.Repeat([]byte{0xff}, 32))},
	} {
		if got, e := hash.Unhex(x.s); got != x.want || e != api.OK {
			t.Errorf("Unhex(%q) = %x, %v, want %x", x.s, got, e, x.want)
		}
	}
}

func TestP25UnhexOfOtherLengths(t *testing.T) {
	for length := range 200 {
		if length != 64 {
			refused(t, strings.Repeat("0", length))
			refused(t, strings.Repeat("e", length))
		}
	}
	refused(t, strings.Repeat("0", 64)+"\n")
	refused(t, "0x"+strings.Repeat("0", 64))
	refused(t, strings.Repeat("0", 1<<16))
}

func TestP25UnhexOfEachSign(t *testing.T) {
	for place := range 64 {
		for c := range 256 {
			text := bytes.Repeat([]byte{'7'}, 64)
			text[place] = byte(c)
			s := string(text)
			if !strings.Contains("0123456789abcdef", string([]byte{byte(c)})) {
				refused(t, s)
				continue
			}
			got, e := hash.Unhex(s)
			if want, err := hex.DecodeString(s); err != nil || !bytes.Equal(got[:], want) || e != api.OK {
				t.Errorf("Unhex(%q) = %x, %v", s, got, e)
			}
		}
	}
}

func TestP25UnhexOfWrongSigns(t *testing.T) {
	zeros := strings.Repeat("0", 62)
	for _, s := range []string{"0A", "A0", "FF", "0g", "0 ", " 0", "0x", "-1", "+1", "\x00\x00", "\u00df", "\u0661", "/:", "`0", "@0"} {
		refused(t, zeros+s)
		refused(t, s+zeros)
	}
	refused(t, strings.Repeat("\u0660", 64))
	refused(t, strings.Repeat("\u0660", 32))
	refused(t, strings.ToUpper(examples[0].digits))
}

func TestHexAndUnhexReadEachOther(t *testing.T) {
	for i := range 200 {
		d := hash.Sum(message(i))
		s := hash.Hex(d)
		got, e := hash.Unhex(s)
		if got != d || e != api.OK {
			t.Errorf("Unhex(Hex(%x)) = %x, %v", d, got, e)
		}
		if again := hash.Hex(got); again != s {
			t.Errorf("Hex(Unhex(%s)) = %s", s, again)
		}
	}
}

func TestR3BytesAreLeftAsTheyWere(t *testing.T) {
	for _, length := range edgeLengths {
		whole := message(length + 200)
		was := bytes.Clone(whole)
		hash.Sum(whole[:length])
		h := hash.New()
		h.Write(whole[:length])
		h.Sum()
		h.Copy().Write(whole[:length])
		if !bytes.Equal(whole, was) {
			t.Errorf("%d bytes, or their spare room, were written into", length)
		}
	}
}

func TestR3BytesAreNotKept(t *testing.T) {
	for _, length := range edgeLengths {
		b := message(length)
		was := bytes.Clone(b)
		h := hash.New()
		h.Write(b)
		g := h.Copy()
		for i := range b {
			b[i] ^= 0xff
		}
		unalike(t, h.Sum(), was, "Sum behind a change of what was handed in")
		unalike(t, g.Sum(), was, "a copy's Sum behind a change of what was handed in")
	}
}

func TestR3DigestsAreNewMemory(t *testing.T) {
	h := hash.New()
	h.Write([]byte("abc"))
	d := h.Sum()
	d[0] ^= 0xff
	unalike(t, h.Sum(), []byte("abc"), "Sum behind a change of its answer")
	hash.Hex(d)
	if d[0] != 0xba^0xff {
		t.Error("Hex wrote into its digest")
	}
}

// FuzzPieces cuts a message in three and holds it against the library's own.
func FuzzPieces(f *testing.F) {
	f.Add([]byte("abc"), 1, 2)
	f.Add(message(130), 64, 0)
	f.Fuzz(func(t *testing.T, b []byte, first, second int) {
		one := min(max(first, 0), len(b))
		two := min(max(second, one), len(b))
		h := hash.New()
		h.Write(b[:one])
		h.Sum()
		h.Write(b[one:two])
		g := h.Copy()
		if n := h.Write(b[two:]); n != len(b) {
			t.Fatalf("Write tells %d behind %d bytes", n, len(b))
		}
		unalike(t, h.Sum(), b, "Sum of pieces")
		unalike(t, g.Sum(), b[:two], "Sum of a copy")
		if hash.Sum(b) != h.Sum() {
			t.Errorf("Sum and a Hash's Sum differ of %x", b)
		}
	})
}

func FuzzUnhex(f *testing.F) {
	f.Add(strings.Repeat("0", 64))
	f.Add(strings.Repeat("A", 64))
	f.Fuzz(func(t *testing.T, s string) {
		d, e := hash.Unhex(s)
		if e == api.OK && hash.Hex(d) != s {
			t.Errorf("Unhex(%q) is written as %q", s, hash.Hex(d))
		}
		if e != api.OK && (d != [32]byte{} || e != api.ErrHashHex) {
			t.Errorf("Unhex(%q) = %x, %v", s, d, e)
		}
	})
}
