package pool_test

import (
	"fmt"
	"math"
	"reflect"
	"strings"
	"testing"

	"scruple/api"
	"scruple/pool"
	"scruple/value"
)

var unit = api.Value{}

func truth(n int64) api.Value { return api.Value{Kind: api.Bool, N: n} }

func number(n int64) api.Value { return api.Value{Kind: api.Int, N: n} }

func text(s string) api.Value { return api.Value{Kind: api.Bytes, S: s} }

func list(l ...api.Value) api.Value { return api.Value{Kind: api.Array, L: l} }

// heavy is a value of that weight.
func heavy(weight int) api.Value { return text(strings.Repeat("h", weight-1)) }

// deep is a value of that depth.
func deep(depth int) api.Value {
	v := unit
	for range depth - 1 {
		v = list(v)
	}
	return v
}

func bid(from, number, fee int) api.Bid { return api.Bid{From: from, Number: number, Fee: fee} }

// named is a bid whose act has a name, by which it is known from others.
func named(from, number, fee int, name string) api.Bid {
	b := bid(from, number, fee)
	b.Act.Name = name
	return b
}

// toldBid is a bid as a text: its numbers, and what its act says, if it says something.
func toldBid(b api.Bid) string {
	out := fmt.Sprint(b.From, " ", b.Number, " ", b.Fee)
	a := b.Act
	if a.Kind == 0 && a.Name == "" && a.Body == "" && a.Entry == "" && len(a.Args) == 0 && a.Gas == 0 {
		return out
	}
	var args []string
	for _, v := range a.Args {
		args = append(args, value.Print(v))
	}
	return fmt.Sprintf("%s (%d %.30q %.30q of %d %.30q [%s] %d)", out, a.Kind, a.Name, a.Body, len(a.Body), a.Entry, strings.Join(args, ", "), a.Gas)
}

// told are bids as a text.
func told(l []api.Bid) string {
	var out []string
	for _, b := range l {
		out = append(out, toldBid(b))
	}
	return strings.Join(out, "; ")
}

// codes are errors as a text: those of each feed, parted by a stroke.
func codes(l [][]api.Errno) string {
	var out []string
	for _, feed := range l {
		out = append(out, strings.Trim(fmt.Sprint(numbers(feed)), "[]"))
	}
	return strings.Join(out, " | ")
}

func numbers(l []api.Errno) []int {
	var out []int
	for _, e := range l {
		out = append(out, int(e))
	}
	return out
}

// made is a pool of that room with bids.
func made(t *testing.T, room int, l ...api.Bid) *pool.Pool {
	t.Helper()
	p, e := pool.New(room)
	if p == nil || e != api.OK {
		t.Fatalf("P23.1: New(%d): %d", room, e)
	}
	for _, b := range l {
		adds(t, p, b, api.OK)
	}
	return p
}

// adds holds what Add says.
func adds(t *testing.T, p *pool.Pool, b api.Bid, want api.Errno) {
	t.Helper()
	was := told(p.Bids())
	if e := p.Add(b); e != want {
		t.Errorf("P23.2: Add of %s: %d, want %d", toldBid(b), e, want)
	}
	if now := told(p.Bids()); want != api.OK && now != was {
		t.Errorf("P23.2: Add of %s, which is refused: the bids are %.300s, want %.300s", toldBid(b), now, was)
	}
}

// takes holds what Take gives: a bid's text, or nothing if there is none.
func takes(t *testing.T, p *pool.Pool, want string) {
	t.Helper()
	b, ok := p.Take()
	got := ""
	if ok {
		got = toldBid(b)
	} else if !reflect.DeepEqual(b, api.Bid{}) {
		t.Errorf("P23.3: beside false Take gives %s", toldBid(b))
	}
	if got != want || ok != (want != "") {
		t.Errorf("P23.3: Take gives %q, %v, want %q", got, ok, want)
	}
}

// has holds all bids of a pool, and the next numbers of the first senders; those of all others must be 0.
func has(t *testing.T, p *pool.Pool, bids string, next ...int) {
	t.Helper()
	if got := told(p.Bids()); got != bids {
		t.Errorf("P23.4: the bids are %.300s, want %.300s", got, bids)
	}
	for from := range api.MaxSenders {
		want := 0
		if from < len(next) {
			want = next[from]
		}
		if got := p.Next(from); got != want {
			t.Errorf("P23.4: Next(%d) is %d, want %d", from, got, want)
		}
	}
}

// gathers holds what Gather says of each bid.
func gathers(t *testing.T, p *pool.Pool, want string, feeds ...[]api.Bid) {
	t.Helper()
	l, e := p.Gather(feeds)
	if e != api.OK || len(l) != len(feeds) || codes(l) != want {
		t.Errorf("P23.5: Gather: %s, %d, want %s", codes(l), e, want)
	}
}

func TestExamples(t *testing.T) {
	p := made(t, 3)
	adds(t, p, bid(0, 0, 5), api.OK)
	adds(t, p, bid(1, 1, 9), api.OK)
	adds(t, p, bid(0, 0, 5), api.ErrPoolFee)
	adds(t, p, bid(0, 0, 6), api.OK)
	adds(t, p, bid(8, 0, 1), api.ErrPoolBid)
	adds(t, p, bid(0, 16, 1), api.ErrPoolBid)
	adds(t, p, bid(2, 0, 6), api.OK)
	adds(t, p, bid(3, 0, 7), api.ErrPoolFull)
	takes(t, p, "0 0 6")
	takes(t, p, "2 0 6")
	takes(t, p, "")
	has(t, p, "1 1 9", 1, 0, 1)
	gathers(t, p, "231 0 | 0", []api.Bid{bid(1, 0, 2), bid(1, 0, 3)}, []api.Bid{bid(0, 1, 1)})
	has(t, p, "0 1 1; 1 0 3; 1 1 9", 1, 0, 1)
	if got := told(p.Batch(9)); got != "1 0 3; 1 1 9; 0 1 1" {
		t.Errorf("P23.3: Batch gives %s", got)
	}
	has(t, p, "", 2, 2, 1)
}

// TestExampleOfTheWhole: DOC.md's tenth, the bids dealt in each way to two feeds, in each order.
func TestExampleOfTheWhole(t *testing.T) {
	bids := []api.Bid{bid(0, 0, 5), bid(1, 0, 9), bid(1, 1, 9)}
	for _, order := range [][]int{{0, 1, 2}, {0, 2, 1}, {1, 0, 2}, {1, 2, 0}, {2, 0, 1}, {2, 1, 0}} {
		for deal := range 8 {
			feeds := make([][]api.Bid, 2)
			for i, k := range order {
				feeds[deal>>i&1] = append(feeds[deal>>i&1], bids[k])
			}
			p := made(t, 64)
			if _, e := p.Gather(feeds); e != api.OK {
				t.Fatalf("T7: Gather: %d", e)
			}
			if got := told(p.Batch(9)); got != "1 0 9; 1 1 9; 0 0 5" {
				t.Errorf("T7: of %v Batch gives %s", feeds, got)
			}
		}
	}
}

func TestP231(t *testing.T) {
	for room := -100; room <= 200; room++ {
		p, e := pool.New(room)
		if room < 1 || room > 64 {
			if p != nil || e != api.ErrArg {
				t.Errorf("P23.1: New(%d): %v, %d", room, p, e)
			}
			continue
		}
		if p == nil || e != api.OK {
			t.Fatalf("P23.1: New(%d): %d", room, e)
		}
		has(t, p, "")
		takes(t, p, "")
	}
	for _, room := range []int{math.MinInt, math.MaxInt, 1<<32 + 1, -1 << 32, 256 + 1, 65536 + 1} {
		if p, e := pool.New(room); p != nil || e != api.ErrArg {
			t.Errorf("P23.1: New(%d): %v, %d", room, p, e)
		}
	}
}

// TestP231Room: a pool has as many bids as its room, and no more.
func TestP231Room(t *testing.T) {
	for room := 1; room <= 64; room++ {
		p := made(t, room)
		for i := range room {
			adds(t, p, bid(i%8, i/8, i), api.OK)
		}
		if got := len(p.Bids()); got != room {
			t.Errorf("P23.2: %d bids in a room of %d", got, room)
		}
		adds(t, p, bid(room%8, room/8, 1000000), api.ErrPoolFull)
		adds(t, p, bid(7, 15, 0), api.ErrPoolFull)
		adds(t, p, bid(0, 0, 0), api.ErrPoolFee)
		adds(t, p, bid(0, 0, 1), api.OK)
		if got := len(p.Batch(100)); got != room {
			t.Errorf("P23.3: Batch gives %d of %d", got, room)
		}
		adds(t, p, bid(0, p.Next(0), 0), api.OK)
	}
}

// TestP232Bid: which bids may be, at each edge.
func TestP232Bid(t *testing.T) {
	for _, from := range []int{-1, 8, 9, -8, 256, 1 << 32, math.MaxInt, math.MinInt} {
		for _, number := range []int{0, 1, -1, 16, math.MaxInt, math.MinInt} {
			adds(t, made(t, 1), bid(from, number, 0), api.ErrPoolBid)
		}
	}
	for from := range 8 {
		p := made(t, 1)
		adds(t, p, bid(from, 0, 0), api.OK)
		has(t, p, fmt.Sprint(from, " 0 0"))
	}
	for _, fee := range []int{-1, 1000001, math.MaxInt, math.MinInt, 1 << 32, -1000000} {
		adds(t, made(t, 1), bid(0, 0, fee), api.ErrPoolBid)
	}
	for _, fee := range []int{0, 1, 999999, 1000000} {
		p := made(t, 1)
		adds(t, p, bid(7, 15, fee), api.OK)
		has(t, p, fmt.Sprint("7 15 ", fee))
	}
}

// TestP232Number: a number may be from its sender's next one on, up to 15 above it.
func TestP232Number(t *testing.T) {
	p, q := made(t, 64), made(t, 64)
	for next := range 70 {
		for _, n := range []int{next - 1, next - 2, 0, -1, next + 16, next + 17, next + 1000, math.MaxInt, math.MaxInt - 15, math.MinInt, math.MinInt + 16, -16, 1 << 32} {
			if n < next || n > next+15 {
				adds(t, p, bid(3, n, 9), api.ErrPoolBid)
				adds(t, q, bid(3, n, 9), api.ErrPoolBid)
			}
		}
		for n := next; n < next+16; n++ {
			r := made(t, 64)
			for i := range next {
				adds(t, r, bid(3, i, 0), api.OK)
				takes(t, r, fmt.Sprint("3 ", i, " 0"))
			}
			adds(t, r, bid(3, n, 9), api.OK)
			has(t, r, fmt.Sprint("3 ", n, " 9"), 0, 0, 0, next)
		}
		// p never has more than one bid; q has its farthest ones too, beside one of another sender.
		adds(t, p, bid(3, next, next), api.OK)
		takes(t, p, fmt.Sprint("3 ", next, " ", next))
		if next == 0 {
			adds(t, q, bid(5, 1, 0), api.OK)
			for i := range 15 {
				adds(t, q, bid(3, i, i), api.OK)
			}
		}
		adds(t, q, bid(3, next+15, next+15), api.OK)
		takes(t, q, fmt.Sprint("3 ", next, " ", next))
	}
	has(t, p, "", 0, 0, 0, 70)
}

// TestP232Act: what is asked of an act, and what is not.
func TestP232Act(t *testing.T) {
	right := []api.Value{unit, truth(0), truth(1), number(math.MinInt64), text("\x00\xff"), list(unit, text("a")), heavy(2048), deep(8), {Kind: api.Record, K: []string{"", "a"}, L: []api.Value{unit, list()}}}
	wrong := []api.Value{{Kind: 9}, {Kind: -1}, truth(2), {N: 1}, heavy(2049), deep(9), {Kind: api.Record, K: []string{"b", "a"}, L: []api.Value{unit, unit}}, list(truth(2))}
	self := list(unit)
	self.L[0] = self
	wrong = append(wrong, self)
	for count := range 12 {
		var args []api.Value
		for i := range count {
			args = append(args, right[i%len(right)])
		}
		want := api.OK
		if count > 8 {
			want = api.ErrPoolBid
		}
		adds(t, made(t, 1), api.Bid{Act: api.Act{Args: args}}, want)
		for at := range args {
			for _, v := range wrong {
				spoilt := append([]api.Value{}, args...)
				spoilt[at] = v
				adds(t, made(t, 1), api.Bid{Act: api.Act{Args: spoilt}}, api.ErrPoolBid)
			}
		}
	}
	for _, v := range right {
		adds(t, made(t, 1), api.Bid{Act: api.Act{Args: []api.Value{v}}}, api.OK)
	}
	for size, want := range map[int]api.Errno{0: 0, 1: 0, 8193: 0, 65535: 0, 65536: 0, 65537: api.ErrPoolBid, 200000: api.ErrPoolBid} {
		p := made(t, 1)
		adds(t, p, api.Bid{Act: api.Act{Body: strings.Repeat("b", size)}}, want)
		if b, ok := p.Take(); ok != (want == api.OK) || ok && len(b.Act.Body) != size {
			t.Errorf("P23.2: a Body of %d bytes: %v, %d", size, ok, len(b.Act.Body))
		}
	}
	for _, a := range []api.Act{
		{Kind: 3, Name: "m", Entry: "f", Args: []api.Value{number(1), list(text("x"))}, Gas: 99},
		{Kind: 99, Name: "no name", Body: "fn", Entry: "", Gas: -1},
		{Kind: math.MinInt, Name: strings.Repeat("n", 100000), Body: "\x00", Entry: strings.Repeat("e", 100000), Gas: math.MaxInt64},
	} {
		p := made(t, 1)
		b := api.Bid{From: 2, Fee: 7, Act: a}
		adds(t, p, b, api.OK)
		l := p.Bids()
		if len(l) != 1 || !reflect.DeepEqual(l[0], b) {
			t.Errorf("P23.4: the bids are %s, want %s", told(l), toldBid(b))
		}
		if got, ok := p.Take(); !ok || !reflect.DeepEqual(got, b) {
			t.Errorf("P23.3: Take gives %s, want %s", toldBid(got), toldBid(b))
		}
	}
}

// TestP232Fee: a bid takes the place of one of a smaller fee alone, also where there is no room.
func TestP232Fee(t *testing.T) {
	for room := 1; room <= 2; room++ {
		for old := range 6 {
			for fee := range 6 {
				p := made(t, room, named(1, 4, old, "old"))
				want, kept := api.ErrPoolFee, named(1, 4, old, "old")
				if fee > old {
					want, kept = api.OK, named(1, 4, fee, "new")
				}
				adds(t, p, named(1, 4, fee, "new"), want)
				has(t, p, toldBid(kept))
			}
		}
	}
	p := made(t, 2, bid(1, 0, 5), bid(1, 1, 5))
	adds(t, p, bid(1, 0, 1000000), api.OK)
	adds(t, p, bid(1, 1, 6), api.OK)
	adds(t, p, bid(1, 2, 6), api.ErrPoolFull)
	adds(t, p, bid(0, 0, 6), api.ErrPoolFull)
	has(t, p, "1 0 1000000; 1 1 6")
}

// TestP232Order: of several errors the first that the promise names.
func TestP232Order(t *testing.T) {
	p := made(t, 1, bid(1, 0, 5))
	wrong := bid(1, 0, 5)
	wrong.Act.Args = []api.Value{{Kind: 9}}
	adds(t, p, wrong, api.ErrPoolBid)         // there is one of no smaller fee
	adds(t, p, bid(1, 0, -1), api.ErrPoolBid) // and so here
	adds(t, p, bid(1, 16, 5), api.ErrPoolBid) // there is no room
	adds(t, p, bid(1, -1, 5), api.ErrPoolBid)
	adds(t, p, bid(8, 0, 5), api.ErrPoolBid)
	adds(t, p, bid(1, 0, 5), api.ErrPoolFee)
	adds(t, p, bid(1, 1, 5), api.ErrPoolFull)
	takes(t, p, "1 0 5")
	adds(t, p, bid(1, 0, 6), api.ErrPoolBid) // it has been taken
	adds(t, p, bid(1, 16, 6), api.OK)
	adds(t, p, bid(1, 17, 6), api.ErrPoolBid)
	has(t, p, "1 16 6", 0, 1)
}

// TestP233: what is best.
func TestP233(t *testing.T) {
	p := made(t, 64, bid(5, 0, 3), bid(2, 0, 3), bid(7, 0, 4), bid(0, 0, 0), bid(2, 1, 1000000), bid(1, 1, 1000000), bid(5, 2, 9), bid(7, 1, 3))
	for _, want := range []string{"7 0 4", "2 0 3", "2 1 1000000", "5 0 3", "7 1 3", "0 0 0", "", ""} {
		takes(t, p, want)
	}
	has(t, p, "1 1 1000000; 5 2 9", 1, 0, 2, 0, 0, 1, 0, 2)
	adds(t, p, bid(5, 1, 0), api.OK)
	takes(t, p, "5 1 0")
	takes(t, p, "5 2 9")
	takes(t, p, "")
	adds(t, p, bid(1, 0, 0), api.OK)
	takes(t, p, "1 0 0")
	takes(t, p, "1 1 1000000")
	has(t, p, "", 1, 2, 2, 0, 0, 3, 0, 2)

	// Whichever sender it is: one of no fee is taken, and of all with one fee the least sender's.
	for from := range 8 {
		takes(t, made(t, 1, bid(from, 0, 0)), fmt.Sprint(from, " 0 0"))
		q := made(t, 64)
		for k := 7; k >= from; k-- {
			adds(t, q, bid(k, 0, 5), api.OK)
		}
		for k := from; k < 8; k++ {
			takes(t, q, fmt.Sprint(k, " 0 5"))
		}
		takes(t, q, "")
	}
}

func TestP233Batch(t *testing.T) {
	bids := []api.Bid{bid(0, 0, 5), bid(0, 1, 7), bid(1, 0, 9), bid(1, 2, 9), bid(3, 0, 1), bid(2, 0, 5)}
	best := []string{"1 0 9", "0 0 5", "0 1 7", "2 0 5", "3 0 1"}
	for _, most := range []int{math.MinInt, -5, -1, 0, 1, 2, 3, 4, 5, 6, 7, 64, 65, 1 << 40, math.MaxInt} {
		p := made(t, 6, bids...)
		count := max(0, min(most, len(best)))
		if got := told(p.Batch(most)); got != strings.Join(best[:count], "; ") {
			t.Errorf("P23.3: Batch(%d) gives %s", most, got)
		}
		if got := len(p.Bids()); got != 6-count {
			t.Errorf("P23.3: Batch(%d) leaves %d", most, got)
		}
		for _, want := range best[count:] {
			takes(t, p, want)
		}
		if l := p.Batch(most); len(l) != 0 {
			t.Errorf("P23.3: Batch(%d) gives %s, though there is none", most, told(l))
		}
		has(t, p, "1 2 9", 2, 1, 1, 1)
	}
}

func TestP234(t *testing.T) {
	p := made(t, 64)
	var want []string
	for from := range 8 {
		for number := range 8 {
			want = append(want, fmt.Sprint(from, " ", 2*number+from%2, " ", 7*from+number))
		}
	}
	for i := range 64 {
		k := (i*37 + 11) % 64 // all of them, in no order
		adds(t, p, bid(k/8, 2*(k%8)+k/8%2, 7*(k/8)+k%8), api.OK)
	}
	has(t, p, strings.Join(want, "; "))
	has(t, p, strings.Join(want, "; "))
	takes(t, p, "6 0 42")
	has(t, p, strings.Join(append(append([]string{}, want[:48]...), want[49:]...), "; "), 0, 0, 0, 0, 0, 0, 1)
	for _, from := range []int{-1, 8, 9, -8, 14, 256 + 6, 1<<32 + 6, math.MaxInt, math.MinInt} {
		if got := p.Next(from); got != 0 {
			t.Errorf("P23.4: Next(%d) is %d", from, got)
		}
	}
}

// TestP235Order: in which order the bids of feeds are added, by pools of little room.
func TestP235Order(t *testing.T) {
	type feed = []api.Bid
	// By rising senders.
	p := made(t, 2)
	gathers(t, p, "232 0 | 0 232", feed{bid(4, 0, 9), bid(1, 0, 1)}, feed{bid(0, 0, 2), bid(2, 0, 9)})
	has(t, p, "0 0 2; 1 0 1")
	// Of one by rising numbers.
	p = made(t, 2)
	gathers(t, p, "232 0 | 0 232", feed{bid(1, 4, 9), bid(1, 1, 1)}, feed{bid(1, 0, 2), bid(1, 2, 9)})
	has(t, p, "1 0 2; 1 1 1")
	// Of these by falling fees.
	p = made(t, 2)
	gathers(t, p, "231 231 | 231 0", feed{bid(1, 4, 2), bid(1, 4, 8)}, feed{bid(1, 4, 0), bid(1, 4, 9)})
	has(t, p, "1 4 9")
	// Of these by rising feeds, and as they stand in the feed.
	p = made(t, 1)
	gathers(t, p, "231 | 0 231 | 231 | 231 231", feed{named(1, 4, 8, "a")}, feed{named(1, 4, 9, "b"), named(1, 4, 9, "c")}, feed{named(1, 4, 9, "d")}, feed{named(1, 4, 9, "e"), named(1, 4, 7, "f")})
	has(t, p, toldBid(named(1, 4, 9, "b")))
	// What is refused makes no room, and takes none.
	p = made(t, 1)
	gathers(t, p, "230 230 230 | 0 232 230 | 231", feed{bid(-1, 0, 9), bid(0, -1, 9), bid(1, 0, 1000001)}, feed{bid(1, 0, 3), bid(1, 1, 9), bid(1, 16, 9)}, feed{bid(1, 0, 2)})
	has(t, p, "1 0 3")
	// What the pool has already is held against what comes.
	p = made(t, 2, bid(1, 0, 3), bid(2, 0, 3))
	gathers(t, p, "0 232 | 231 231 231", feed{bid(1, 0, 4), bid(0, 0, 9)}, feed{bid(1, 0, 3), bid(2, 0, 3), bid(2, 0, 2)})
	has(t, p, "1 0 4; 2 0 3")
	// Numbers are held against the next ones that the pool has.
	takes(t, p, "1 0 4")
	gathers(t, p, "230 0 230 | 231", feed{bid(1, 0, 4), bid(1, 16, 4), bid(1, 17, 4)}, feed{bid(1, 16, 3)})
	has(t, p, "1 16 4; 2 0 3", 0, 1)
	// The least and the greatest numbers.
	p = made(t, 1)
	least, greatest := math.MinInt, math.MaxInt
	gathers(t, p, "230 230 230 230 230 | 230 230 230 230 0 | 231 230 230",
		feed{bid(least, 0, 0), bid(greatest, 0, 0), bid(0, least, 0), bid(0, greatest, 0), bid(0, 0, least)},
		feed{bid(0, 0, greatest), bid(least, least, least), bid(greatest, greatest, greatest), bid(0, 1, least), bid(0, 0, 1)},
		feed{bid(0, 0, 0), bid(7, 0, least), bid(least, 0, greatest)})
	has(t, p, "0 0 1")
}

// TestP235Feeds: how many feeds there may be, and what is answered for each.
func TestP235Feeds(t *testing.T) {
	for count := range 20 {
		p := made(t, 64, bid(0, 0, 1))
		var feeds [][]api.Bid
		for i := range count {
			var feed []api.Bid
			for k := range i * 7 % 5 {
				feed = append(feed, bid(i%8, k+1, i))
			}
			feeds = append(feeds, feed)
		}
		l, e := p.Gather(feeds)
		if count > 8 {
			if e != api.ErrPoolFeeds || len(l) != 0 {
				t.Errorf("P23.5: Gather of %d feeds: %v, %d", count, l, e)
			}
			has(t, p, "0 0 1")
			continue
		}
		if e != api.OK || len(l) != count {
			t.Fatalf("P23.5: Gather of %d feeds: %v, %d", count, l, e)
		}
		all := 1
		for i, feed := range feeds {
			if len(l[i]) != len(feed) || strings.Trim(fmt.Sprint(numbers(l[i])), "[0 ]") != "" {
				t.Errorf("P23.5: of feed %d of %d bids: %v", i, len(feed), l[i])
			}
			all += len(feed)
		}
		if got := len(p.Bids()); got != all {
			t.Errorf("P23.5: %d bids, want %d", got, all)
		}
	}
	p := made(t, 64, bid(0, 0, 1))
	for _, feeds := range [][][]api.Bid{nil, {}, {nil}, {{}}, {nil, {}, nil}, make([][]api.Bid, 8)} {
		l, e := p.Gather(feeds)
		if e != api.OK || len(l) != len(feeds) {
			t.Errorf("P23.5: Gather of %d empty feeds: %v, %d", len(feeds), l, e)
		}
		for _, feed := range l {
			if len(feed) != 0 {
				t.Errorf("P23.5: of an empty feed: %v", feed)
			}
		}
	}
	has(t, p, "0 0 1")
	if l, e := p.Gather(make([][]api.Bid, 100000)); e != api.ErrPoolFeeds || len(l) != 0 {
		t.Errorf("P23.5: Gather of 100000 feeds: %d, %d", len(l), e)
	}
}

// TestP236Nil: a nil pool, and one that New did not make, do nothing.
func TestP236Nil(t *testing.T) {
	for what, p := range map[string]*pool.Pool{"nil": nil, "zero": {}} {
		for _, b := range []api.Bid{bid(0, 0, 0), bid(8, 0, 0), bid(0, 0, -1), {Act: api.Act{Args: []api.Value{{Kind: 9}}}}} {
			if e := p.Add(b); e != api.ErrNil {
				t.Errorf("P23.6: %s: Add of %s: %d", what, toldBid(b), e)
			}
		}
		takes(t, p, "")
		has(t, p, "")
		for _, n := range []int{math.MinInt, -1, 0, 1, 8, math.MaxInt} {
			if l := p.Batch(n); len(l) != 0 || p.Next(n) != 0 {
				t.Errorf("P23.6: %s: Batch(%d) gives %s; Next %d", what, n, told(l), p.Next(n))
			}
		}
		for _, feeds := range [][][]api.Bid{nil, {{bid(0, 0, 0)}}, make([][]api.Bid, 8), make([][]api.Bid, 9)} {
			if l, e := p.Gather(feeds); len(l) != 0 || e != api.ErrNil {
				t.Errorf("P23.6: %s: Gather of %d feeds: %v, %d", what, len(feeds), l, e)
			}
		}
		has(t, p, "")
	}
}
