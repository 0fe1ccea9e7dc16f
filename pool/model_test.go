package pool_test

import (
	"math"
	"math/rand"
	"slices"
	"sort"

	"scruple/api"
	"scruple/value"
)

// The model reads the chapter in another way: it keeps bids in a row, as they came, and of each sender how many were
// taken; which bid is best it finds by sorting all that may come.
type model struct {
	room  int
	bids  []api.Bid
	taken map[int]int
}

func modelOf(room int) *model { return &model{room: room, taken: map[int]int{}} }

func (m *model) add(b api.Bid) api.Errno {
	may := 0 <= b.From && b.From <= 7 && 0 <= b.Fee && b.Fee <= 1000000 && len(b.Act.Body) <= 65536 && len(b.Act.Args) <= 8
	for _, v := range b.Act.Args {
		may = may && value.Weight(v) > 0
	}
	var window []int
	for i := range 16 {
		window = append(window, m.taken[b.From]+i)
	}
	if !may || !slices.Contains(window, b.Number) {
		return 230
	}
	for i, old := range m.bids {
		if old.From == b.From && old.Number == b.Number {
			if old.Fee >= b.Fee {
				return 231
			}
			m.bids[i] = b
			return 0
		}
	}
	if len(m.bids) >= m.room {
		return 232
	}
	m.bids = append(m.bids, b)
	return 0
}

func (m *model) take() (api.Bid, bool) {
	var come []api.Bid
	for _, b := range m.bids {
		if b.Number == m.taken[b.From] {
			come = append(come, b)
		}
	}
	if len(come) == 0 {
		return api.Bid{}, false
	}
	sort.Slice(come, func(i, j int) bool { return come[i].From < come[j].From })
	sort.SliceStable(come, func(i, j int) bool { return come[i].Fee > come[j].Fee })
	best := come[0]
	m.taken[best.From]++
	m.bids = slices.DeleteFunc(m.bids, func(b api.Bid) bool { return b.From == best.From && b.Number == best.Number })
	return best, true
}

func (m *model) all() []api.Bid {
	l := slices.Clone(m.bids)
	sort.Slice(l, func(i, j int) bool {
		return l[i].From < l[j].From || l[i].From == l[j].From && l[i].Number < l[j].Number
	})
	return l
}

// gather sorts the bids' places by one thing behind the other, the least one first: such sorts leave what is the same
// as it stood.
func (m *model) gather(feeds [][]api.Bid) ([][]api.Errno, api.Errno) {
	if len(feeds) > 8 {
		return nil, 233
	}
	type place struct{ feed, at int }
	var places []place
	out := make([][]api.Errno, len(feeds))
	for i, feed := range feeds {
		out[i] = make([]api.Errno, len(feed))
		for k := range feed {
			places = append(places, place{i, k})
		}
	}
	of := func(x place) api.Bid { return feeds[x.feed][x.at] }
	sort.SliceStable(places, func(i, j int) bool { return of(places[i]).Fee > of(places[j]).Fee })
	sort.SliceStable(places, func(i, j int) bool { return of(places[i]).Number < of(places[j]).Number })
	sort.SliceStable(places, func(i, j int) bool { return of(places[i]).From < of(places[j]).From })
	for _, x := range places {
		out[x.feed][x.at] = m.add(of(x))
	}
	return out, 0
}

// bidder makes random bids: most of them near to what a pool's senders may bid, with few fees, so that many are alike.
type bidder struct {
	dice  *rand.Rand
	froms int // of how many senders
	ahead int // how far above a sender's next number
	fees  int
	count int
}

func bidderOf(dice *rand.Rand) *bidder {
	return &bidder{dice: dice, froms: 1 + dice.Intn(8), ahead: []int{1, 2, 4, 17}[dice.Intn(4)], fees: []int{1, 3, 10, 1000001}[dice.Intn(4)]}
}

// bid is one, of which no other has the act's name; next is what a sender's next number is.
func (x *bidder) bid(next func(from int) int) api.Bid {
	dice := x.dice
	x.count++
	b := api.Bid{From: dice.Intn(x.froms), Fee: dice.Intn(x.fees)}
	b.Number = next(b.From) + dice.Intn(x.ahead)
	b.Act = api.Act{Kind: dice.Intn(5), Name: string(rune('A'+x.count%26)) + string(rune('a'+x.count/26%26)) + string(rune('a'+x.count/676)), Gas: int64(dice.Intn(9))}
	for range dice.Intn(3) {
		b.Act.Args = append(b.Act.Args, []api.Value{unit, number(3), text("x"), list(number(1), text("b"))}[dice.Intn(4)])
	}
	edges := []int{-1, 8, math.MinInt, math.MaxInt, -16, 16, 1 << 32}
	switch dice.Intn(100) {
	case 0:
		b.From = edges[dice.Intn(len(edges))]
	case 1:
		b.Number = edges[dice.Intn(len(edges))]
	case 2, 3:
		b.Number = next(b.From) + []int{-1, -2, 15, 16, 17}[dice.Intn(5)]
	case 4:
		b.Fee = []int{-1, 1000001, math.MinInt, math.MaxInt}[dice.Intn(4)]
	case 5:
		b.Act.Args = append(b.Act.Args, api.Value{Kind: 9})
	case 6:
		b.Act.Args = make([]api.Value, 8+dice.Intn(2))
	}
	return b
}

// feeds are random ones of bids.
func (x *bidder) feeds(next func(from int) int) [][]api.Bid {
	feeds := make([][]api.Bid, x.dice.Intn(9))
	if len(feeds) == 0 {
		return feeds
	}
	for range x.dice.Intn(30) {
		i := x.dice.Intn(len(feeds))
		feeds[i] = append(feeds[i], x.bid(next))
	}
	return feeds
}
