package pool_test

import (
	"fmt"
	"math/rand"
	"reflect"
	"runtime"
	"slices"
	"sync"
	"testing"
	"time"
	"unsafe"

	"scruple/api"
	"scruple/pool"
)

// pair is a pool, and a model of it.
type pair struct {
	p *pool.Pool
	m *model
}

func begun(t *testing.T, room int) pair { return pair{made(t, room), modelOf(room)} }

// meet holds all that a pool tells against the model.
func meet(t *testing.T, x pair) {
	t.Helper()
	if got, want := told(x.p.Bids()), told(x.m.all()); got != want {
		t.Fatalf("P23.4: the bids are %s, want %s", got, want)
	}
	for from := -1; from < 10; from++ {
		if got, want := x.p.Next(from), x.m.taken[from]; got != want {
			t.Fatalf("P23.4: Next(%d) is %d, want %d", from, got, want)
		}
	}
}

// taken holds a Take against the model.
func taken(t *testing.T, x pair) (api.Bid, bool) {
	t.Helper()
	b, ok := x.p.Take()
	c, there := x.m.take()
	if ok != there || toldBid(b) != toldBid(c) {
		t.Fatalf("P23.3: Take gives %s, %v, want %s, %v", toldBid(b), ok, toldBid(c), there)
	}
	return b, ok
}

// TestP232Rows: each short row of bids of a few senders, numbers and fees, and of Takes, comes to what the model says.
func TestP232Rows(t *testing.T) {
	var bids []api.Bid
	for _, from := range []int{0, 1, 7} {
		for number := range 2 {
			for fee := range 2 {
				bids = append(bids, bid(from, number, fee))
			}
		}
	}
	const length = 4
	count := 1
	for range length {
		count *= len(bids) + 1
	}
	for room := 1; room <= 3; room++ {
		for row := range count {
			x := begun(t, room)
			for range length {
				k := row % (len(bids) + 1)
				row /= len(bids) + 1
				if k == len(bids) {
					taken(t, x)
				} else if got, want := x.p.Add(bids[k]), x.m.add(bids[k]); got != want {
					t.Fatalf("P23.2: Add of %s: %d, want %d", toldBid(bids[k]), got, want)
				}
			}
			meet(t, x)
		}
	}
}

// TestP23Random: random calls, one behind the other, come to what the model says; a sender's bids come off by their
// numbers, from 0 on, each number once.
func TestP23Random(t *testing.T) {
	dice := rand.New(rand.NewSource(2301))
	seen := map[api.Errno]int{}
	for range 300 {
		x := begun(t, []int{1, 2, 3, 8, 20, 64}[dice.Intn(6)])
		from := bidderOf(dice)
		off := map[int]int{}
		left := func(b api.Bid) {
			if b.Number != off[b.From] {
				t.Fatalf("P23.7: %s comes off behind %d of its sender", toldBid(b), off[b.From])
			}
			off[b.From]++
		}
		for range 80 {
			switch k := dice.Intn(20); {
			case k < 12:
				b := from.bid(x.p.Next)
				got, want := x.p.Add(b), x.m.add(b)
				if got != want {
					t.Fatalf("P23.2: Add of %s: %d, want %d", toldBid(b), got, want)
				}
				seen[got]++
			case k < 16:
				if b, ok := taken(t, x); ok {
					left(b)
				}
			case k < 18:
				most := dice.Intn(9) - 1
				l := x.p.Batch(most)
				for i, b := range l {
					if want, _ := x.m.take(); i >= most || toldBid(b) != toldBid(want) {
						t.Fatalf("P23.3: Batch(%d) gives %s, want %s", most, told(l), toldBid(want))
					}
					left(b)
				}
				if len(l) < most {
					taken(t, x)
				}
			default:
				feeds := from.feeds(x.p.Next)
				got, e := x.p.Gather(feeds)
				want, _ := x.m.gather(feeds)
				if e != api.OK || codes(got) != codes(want) {
					t.Fatalf("P23.5: Gather of %v: %s, %d, want %s", feeds, codes(got), e, codes(want))
				}
			}
			meet(t, x)
		}
	}
	for _, e := range []api.Errno{api.OK, api.ErrPoolBid, api.ErrPoolFee, api.ErrPoolFull} {
		if seen[e] < 100 {
			t.Errorf("%d bids came to %d", seen[e], e)
		}
	}
}

// TestP235Random: great feeds come to what the model says, and to the same whenever they are taken in, by however many
// processors.
func TestP235Random(t *testing.T) {
	dice := rand.New(rand.NewSource(2302))
	defer runtime.GOMAXPROCS(runtime.GOMAXPROCS(0))
	for range 12 {
		room := 1 + dice.Intn(64)
		from := bidderOf(dice)
		m := modelOf(room)
		feeds := make([][]api.Bid, 1+dice.Intn(8))
		for i := range feeds {
			for range dice.Intn(400) {
				feeds[i] = append(feeds[i], from.bid(func(int) int { return 0 }))
			}
		}
		want, _ := m.gather(feeds)
		for turn := range 8 {
			runtime.GOMAXPROCS(1 + turn%4*2)
			p := made(t, room)
			got, e := p.Gather(feeds)
			if e != api.OK || codes(got) != codes(want) {
				t.Fatalf("P23.5: Gather says %.300s, %d, want %.300s", codes(got), e, codes(want))
			}
			meet(t, pair{p, m})
		}
	}
}

// dealt are bids dealt to some feeds at random, in a random order; where each bid stands comes with them.
func dealt(dice *rand.Rand, bids []api.Bid) ([][]api.Bid, []int, []int) {
	feeds := make([][]api.Bid, 1+dice.Intn(8))
	feed, place := make([]int, len(bids)), make([]int, len(bids))
	for _, k := range dice.Perm(len(bids)) {
		i := dice.Intn(len(feeds))
		feed[k], place[k] = i, len(feeds[i])
		feeds[i] = append(feeds[i], bids[k])
	}
	return feeds, feed, place
}

// TestT7: however bids are dealt to feeds, the pool comes to one state, each bid to one error, and bids come off in one
// order, if no two have one sender, number and fee.
func TestT7(t *testing.T) {
	dice := rand.New(rand.NewSource(2303))
	for range 60 {
		room := 1 + dice.Intn(64)
		from := bidderOf(dice)
		from.fees = []int{10, 1000001}[dice.Intn(2)]
		first := func(int) int { return 0 }
		var bids, ahead []api.Bid
		for range dice.Intn(10) {
			ahead = append(ahead, from.bid(first))
		}
		known := map[[3]int]bool{}
		for range dice.Intn(150) {
			b := from.bid(first)
			if k := [3]int{b.From, b.Number, b.Fee}; !known[k] {
				known[k] = true
				bids = append(bids, b)
			}
		}
		want := ""
		for turn := range 10 {
			p := made(t, room)
			for _, b := range ahead {
				p.Add(b)
			}
			p.Batch(2)
			feeds, feed, place := dealt(dice, bids)
			l, e := p.Gather(feeds)
			if e != api.OK {
				t.Fatalf("T7: Gather: %d", e)
			}
			var each []api.Errno
			for k := range bids {
				each = append(each, l[feed[k]][place[k]])
			}
			got := fmt.Sprint(told(p.Bids()), numbers(each))
			got += told(p.Batch(20))
			got += told(p.Bids()) + told(p.Batch(100)) + told(p.Bids())
			if turn == 0 {
				want = got
			}
			if got != want {
				t.Fatalf("T7: dealt otherwise, it comes to\n%s, want\n%s", got, want)
			}
		}
	}
}

// TestP235Ended: the goroutines that take feeds in have ended.
func TestP235Ended(t *testing.T) {
	dice := rand.New(rand.NewSource(2304))
	before := runtime.NumGoroutine()
	for range 200 {
		p := made(t, 64)
		p.Gather(bidderOf(dice).feeds(p.Next))
		p.Gather(make([][]api.Bid, 9))
	}
	// One that has said that it is done may take a moment to be gone.
	for range 500 {
		if runtime.NumGoroutine() <= before {
			return
		}
		time.Sleep(time.Millisecond)
	}
	t.Errorf("P23.5: there were %d goroutines, there are %d", before, runtime.NumGoroutine())
}

// roomy is a value whose lists, and those within, have spare room, filled with what must stay.
func roomy(v api.Value) api.Value {
	if v.L != nil {
		l := make([]api.Value, 0, len(v.L)+2)
		for _, x := range v.L {
			l = append(l, roomy(x))
		}
		_ = append(l, number(77), text("spare"))
		v.L = l
	}
	if v.K != nil {
		v.K = append(make([]string, 0, len(v.K)+2), v.K...)
		_ = append(v.K, "spare", "room")
	}
	return v
}

// roomyBid is a bid with such values, in a list with spare room.
func roomyBid(b api.Bid) api.Bid {
	args := make([]api.Value, 0, len(b.Act.Args)+2)
	for _, v := range b.Act.Args {
		args = append(args, roomy(v))
	}
	_ = append(args, number(78), text("room"))
	b.Act.Args = args
	return b
}

// whole is a value with the spare room of its lists, as a text.
func whole(v api.Value) string {
	out := fmt.Sprintf("%d %d %q %q (", v.Kind, v.N, v.S, v.K[:cap(v.K)])
	for _, x := range v.L[:cap(v.L)] {
		out += whole(x)
	}
	return out + ")"
}

// wholeBids are bids with the spare room of all their lists, as a text.
func wholeBids(l []api.Bid) string {
	out := ""
	for _, b := range l[:cap(l)] {
		out += fmt.Sprintf("%s %d ", toldBid(b), cap(b.Act.Args))
		for _, v := range b.Act.Args[:cap(b.Act.Args)] {
			out += whole(v)
		}
	}
	return out
}

// memories are those of all lists of values.
func memories(l []api.Value) []unsafe.Pointer {
	var out []unsafe.Pointer
	if cap(l) > 0 {
		out = append(out, unsafe.Pointer(unsafe.SliceData(l)))
	}
	for _, v := range l[:cap(l)] {
		if cap(v.K) > 0 {
			out = append(out, unsafe.Pointer(unsafe.SliceData(v.K)))
		}
		out = append(out, memories(v.L)...)
	}
	return out
}

// scribble writes into all lists of values, their spare room too.
func scribble(l []api.Value) {
	for i, v := range l[:cap(l)] {
		scribble(v.L)
		for k := range v.K[:cap(v.K)] {
			v.K[:cap(v.K)][k] = "scribbled"
		}
		l[:cap(l)][i] = number(-99)
	}
}

// scribbleBids writes into all lists of bids, their spare room too.
func scribbleBids(l []api.Bid) {
	for i, b := range l[:cap(l)] {
		scribble(b.Act.Args)
		l[:cap(l)][i] = bid(-99, -99, -99)
	}
}

// worth are bids whose acts have lists within lists, some of them the same memory.
func worth() []api.Bid {
	v := api.Value{Kind: api.Record, K: []string{"a", "b"}, L: []api.Value{list(number(1), list(text("x"))), unit}}
	one := []api.Value{v, list(v, v), v}
	act := api.Act{Kind: 3, Name: "m", Entry: "f", Body: "body", Args: one, Gas: 5}
	return []api.Bid{{From: 1, Number: 0, Fee: 3, Act: act}, {From: 1, Number: 1, Fee: 4, Act: act}, {From: 0, Number: 0, Fee: 1, Act: act}, {From: 0, Number: 1, Fee: 9, Act: api.Act{Args: one[:1]}}}
}

// TestR3HandedIn: what is handed in is neither changed nor kept.
func TestR3HandedIn(t *testing.T) {
	var l []api.Bid
	for _, b := range worth() {
		l = append(l, roomyBid(b))
	}
	p := made(t, 8)
	before := wholeBids(l)
	for _, b := range l {
		adds(t, p, b, api.OK)
	}
	if wholeBids(l) != before {
		t.Error("R3: Add writes into a bid")
	}
	was := told(p.Bids())
	scribbleBids(l)
	if now := told(p.Bids()); now != was {
		t.Errorf("R3: Add keeps a bid's lists: %s, want %s", now, was)
	}

	feeds := make([][]api.Bid, 0, 4)
	for i := range 3 {
		feed := make([]api.Bid, 0, 8)
		for _, b := range worth() {
			b.Fee += i
			feed = append(feed, roomyBid(b))
		}
		feed[0], feed[3] = feed[3], feed[0]
		_ = append(feed, bid(7, 7, 7), bid(6, 6, 6), bid(5, 5, 5), bid(4, 4, 4))
		feeds = append(feeds, feed)
	}
	_ = append(feeds, []api.Bid{bid(3, 3, 3)})
	all := func() string {
		out := ""
		for _, feed := range feeds[:cap(feeds)] {
			out += wholeBids(feed) + "\n"
		}
		return out
	}
	before = all()
	q := made(t, 8)
	codes, e := q.Gather(feeds)
	if e != api.OK || all() != before {
		t.Errorf("R3: Gather writes into its feeds: %d", e)
	}
	was, saw := told(q.Bids()), fmt.Sprint(codes)
	for _, feed := range feeds[:cap(feeds)] {
		scribbleBids(feed)
	}
	clear(feeds[:cap(feeds)])
	if now := told(q.Bids()); now != was || fmt.Sprint(codes) != saw {
		t.Errorf("R3: Gather keeps its feeds: %s, want %s", now, was)
	}
}

// TestR3Answers: answers share no memory with the pool, nor with what was handed in, nor with each other.
func TestR3Answers(t *testing.T) {
	handed := worth()
	p, q := made(t, 8, handed...), made(t, 8)
	if _, e := q.Gather([][]api.Bid{handed[:2], handed[2:]}); e != api.OK {
		t.Fatalf("R3: Gather: %d", e)
	}
	var all []unsafe.Pointer
	each := func(l []api.Bid) {
		for _, b := range l {
			all = append(all, memories(b.Act.Args)...)
		}
	}
	var answers [][]api.Bid
	for _, p := range []*pool.Pool{p, q} {
		answers = append(answers, p.Bids(), p.Bids())
		b, _ := p.Take()
		answers = append(answers, []api.Bid{b}, p.Bids(), p.Batch(9))
	}
	for _, l := range answers {
		each(l)
	}
	slices.SortFunc(all, func(a, b unsafe.Pointer) int { return int(uintptr(a)) - int(uintptr(b)) })
	if len(all) < 200 || len(slices.Compact(slices.Clone(all))) != len(all) {
		t.Errorf("R3: lists of answers share memory: %d of %d are unlike", len(slices.Compact(all)), len(all))
	}
	for i := range answers {
		var others []string
		for _, l := range append(answers[i+1:], handed) {
			others = append(others, wholeBids(l))
		}
		scribbleBids(answers[i])
		for k, l := range append(answers[i+1:], handed) {
			if wholeBids(l) != others[k] {
				t.Errorf("R3: an answer is changed by writing into answer %d", i)
			}
		}
	}

	p = made(t, 8, handed...)
	want := told(p.Bids())
	l, more := p.Bids(), p.Bids()
	scribbleBids(l)
	if told(p.Bids()) != want || told(more) != want {
		t.Errorf("R3: the pool is changed by writing into Bids: %s", told(p.Bids()))
	}
	codes, _ := p.Gather([][]api.Bid{{bid(5, 0, 0), bid(5, 0, 1)}, {bid(5, 0, 2)}, nil})
	for _, feed := range codes {
		for i := range feed[:cap(feed)] {
			feed[:cap(feed)][i] = 99
		}
	}
	if fmt.Sprint(numbers(codes[0]), numbers(codes[1])) != "[99 99] [99]" {
		t.Errorf("R3: lists of Gather's answer share memory: %v", codes)
	}
}

// TestR4Apart: pools have nothing in common, also such as are worked on at the same time with the same feeds.
func TestR4Apart(t *testing.T) {
	p, q := made(t, 2, bid(0, 0, 1)), made(t, 2)
	has(t, q, "")
	takes(t, q, "")
	takes(t, p, "0 0 1")
	has(t, q, "")
	adds(t, q, bid(0, 0, 2), api.OK)
	has(t, p, "", 1)

	dice := rand.New(rand.NewSource(2305))
	from := bidderOf(dice)
	from.froms = 8
	var rounds [][][]api.Bid
	for range 20 {
		rounds = append(rounds, from.feeds(func(int) int { return dice.Intn(4) }))
	}
	run := func(p *pool.Pool) string {
		out := ""
		for _, feeds := range rounds {
			l, e := p.Gather(feeds)
			out += fmt.Sprint(codes(l), int(e), told(p.Batch(3)), told(p.Bids()))
		}
		return out
	}
	want := run(made(t, 20))
	var group sync.WaitGroup
	for range 8 {
		p := made(t, 20)
		group.Go(func() {
			if run(p) != want {
				t.Error("R4: pools at the same time come to something else")
			}
		})
	}
	group.Wait()
}

// TestR2Zero: beside an error, or beside false, nothing is told.
func TestR2Zero(t *testing.T) {
	p := made(t, 1, bid(0, 1, 5))
	if b, ok := p.Take(); ok || !reflect.DeepEqual(b, api.Bid{}) {
		t.Errorf("R2: Take gives %s, %v", toldBid(b), ok)
	}
	if l, e := p.Gather(make([][]api.Bid, 9)); len(l) != 0 || e != api.ErrPoolFeeds {
		t.Errorf("R2: Gather gives %v, %d", l, e)
	}
	if l := p.Batch(5); len(l) != 0 {
		t.Errorf("R2: Batch gives %s", told(l))
	}
}
