package pool

import (
	"cmp"
	"slices"
	"sync"

	"scruple/api"
)

// arrival is a bid that has come in over a feed.
type arrival struct {
	bid   api.Bid
	right bool // whether the bid may be
	feed  int
	place int // in the feed
}

// Gather takes in feeds side by side; what came of each bid.
func (p *Pool) Gather(feeds [][]api.Bid) ([][]api.Errno, api.Errno) {
	if !p.made() {
		return nil, api.ErrNil
	}
	if len(feeds) > api.MaxSenders {
		return nil, api.ErrPoolFeeds
	}
	var out [][]api.Errno
	for _, feed := range feeds {
		out = append(out, make([]api.Errno, len(feed)))
	}
	for _, x := range ordered(arrivals(feeds)) {
		out[x.feed][x.place] = p.add(x.bid, x.right)
	}
	return out, api.OK
}

// arrivals are the bids of all feeds, as they happen to come in.
func arrivals(feeds [][]api.Bid) []arrival {
	var workers sync.WaitGroup
	var lines []<-chan arrival
	for i, feed := range feeds {
		lines = append(lines, sent(feed, i, &workers))
	}
	for len(lines) > 1 {
		lines = append(lines[2:], joined(lines[0], lines[1], &workers))
	}
	var out []arrival
	for _, line := range lines {
		for x := range line {
			out = append(out, x)
		}
	}
	workers.Wait()
	return out
}

// sent is a channel over which the bids of a feed come. Whether they may be is
// asked there, side by side with other feeds: it is the long part of the work.
func sent(bids []api.Bid, feed int, workers *sync.WaitGroup) <-chan arrival {
	line := make(chan arrival)
	workers.Add(1)
	go func() {
		defer workers.Done()
		defer close(line)
		for place, b := range bids {
			line <- arrival{b, mayBe(b), feed, place}
		}
	}()
	return line
}

// joined is a channel over which all comes that comes over two. A channel that
// is closed becomes nil, so that it is chosen no more.
func joined(a, b <-chan arrival, workers *sync.WaitGroup) <-chan arrival {
	line := make(chan arrival)
	workers.Add(1)
	go func() {
		defer workers.Done()
		defer close(line)
		for a != nil || b != nil {
			var x arrival
			var open bool
			select {
			case x, open = <-a:
				if !open {
					a = nil
				}
			case x, open = <-b:
				if !open {
					b = nil
				}
			}
			if open {
				line <- x
			}
		}
	}()
	return line
}

// ordered are arrivals in the order in which they are added. No two have one
// feed and place, so it does not hang on how they came in.
func ordered(l []arrival) []arrival {
	sortBy(l,
		func(x arrival) int { return x.bid.From },
		func(x arrival) int { return x.bid.Number },
		func(x arrival) int { return ^x.bid.Fee }, // which falls as the fee rises; -Fee does not at the least int
		func(x arrival) int { return x.feed },
		func(x arrival) int { return x.place },
	)
	return l
}

// sortBy sorts a row by the first rank, what has the same by the next one, and
// so on.
func sortBy[T any](row []T, ranks ...func(T) int) {
	slices.SortFunc(row, func(a, b T) int {
		for _, rank := range ranks {
			if c := cmp.Compare(rank(a), rank(b)); c != 0 {
				return c
			}
		}
		return 0
	})
}
