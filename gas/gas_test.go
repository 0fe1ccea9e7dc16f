package gas_test

import (
	"math"
	"math/rand"
	"strconv"
	"strings"
	"testing"

	"scruple/api"
	"scruple/gas"
)

// document is what DOC.md's table says of each operation, by rising numbers: base and rate.
const document = `
const 1 0, get 1 0, set 1 0, pop 1 0, jump 1 0, unless 2 0, test 1 0, call 8 0, ret 1 0,
add 2 1, sub 2 0, mul 3 0, div 3 0, rem 3 0, neg 1 0, not 1 0,
eq 2 1, ne 2 1, lt 2 1, le 2 1, gt 2 1, ge 2 1,
array 2 1, record 2 1, index 2 0, field 2 0, len 1 0,
push 2 1, change 2 1, slice 2 1, with 2 1, without 2 1, keys 2 1, has 2 0, kind 1 0,
digest 20 1, abort 1 0, load 10 1, save 20 2, drop 10 1, after 10 1`

// price is a row of the document.
type price struct {
	name       string
	base, rate int64
}

// prices are the document's, each at its operation's number.
func prices(t *testing.T) []price {
	t.Helper()
	all := []price{{}}
	for row := range strings.SplitSeq(document, ",") {
		words := strings.Fields(row)
		base, e1 := strconv.ParseInt(words[1], 10, 64)
		rate, e2 := strconv.ParseInt(words[2], 10, 64)
		if e1 != nil || e2 != nil {
			t.Fatalf("the row %q of the document", row)
		}
		all = append(all, price{words[0], base, rate})
	}
	if len(all) != 42 {
		t.Fatalf("%d rows of the document", len(all)-1)
	}
	return all
}

func cost(t *testing.T, op, weight int, want int64, wantE api.Errno) {
	t.Helper()
	if n, e := gas.Cost(op, weight); n != want || e != wantE {
		t.Errorf("Cost(%d, %d) = %d, %v, want %d, %v", op, weight, n, e, want, wantE)
	}
}

func TestExamplesCost(t *testing.T) {
	cost(t, 1, 99, 1, api.OK)
	cost(t, 10, 7, 9, api.OK)
	cost(t, 39, 5, 30, api.OK)
	cost(t, 0, 0, 0, api.ErrGasOp)
	cost(t, 42, 0, 0, api.ErrGasOp)
	cost(t, 1, -1, 0, api.ErrArg)
}

func TestP111Cost(t *testing.T) {
	for op, x := range prices(t) {
		if op == 0 {
			continue
		}
		for _, weight := range []int{0, 1, 2, 7, 255, 256, 2048, 4096, 65536, 1<<20 - 1, 1 << 20} {
			cost(t, op, weight, x.base+x.rate*int64(weight), api.OK)
		}
	}
}

func TestP111Refused(t *testing.T) {
	wrongs := []int{-1, -2, 1<<20 + 1, 1 << 21, math.MaxInt32, math.MinInt32, math.MaxInt, math.MinInt, 1 << 32, 1<<32 + 1, -1 << 32}
	for op := 1; op <= 41; op++ {
		for _, weight := range wrongs {
			cost(t, op, weight, 0, api.ErrArg)
		}
	}
	// The operation is asked first.
	for _, op := range []int{0, -1, 42, 43, 255, 256, 257, 1<<32 + 1, math.MaxInt32, math.MinInt32, math.MaxInt, math.MinInt} {
		for _, weight := range append(wrongs, 0, 1, 1<<20) {
			cost(t, op, weight, 0, api.ErrGasOp)
		}
	}
}

// meter is New of a limit that may be.
func meter(t *testing.T, limit int64) *gas.Meter {
	t.Helper()
	m, e := gas.New(limit)
	if m == nil || e != api.OK {
		t.Fatalf("New(%d): %v, %v", limit, m, e)
	}
	return m
}

// part is Part of a limit that may be, of a meter that has none out.
func part(t *testing.T, m *gas.Meter, limit int64) *gas.Meter {
	t.Helper()
	p, e := m.Part(limit)
	if p == nil || e != api.OK {
		t.Fatalf("Part(%d): %v, %v", limit, p, e)
	}
	return p
}

// reads holds what a meter tells of itself against what it should.
func reads(t *testing.T, what string, m *gas.Meter, left, used int64, spent bool) {
	t.Helper()
	if m.Left() != left || m.Used() != used || m.Spent() != spent {
		t.Errorf("%s: left %d, used %d, spent %t, want %d, %d, %t", what, m.Left(), m.Used(), m.Spent(), left, used, spent)
	}
}

func charge(t *testing.T, m *gas.Meter, n int64, want bool) {
	t.Helper()
	if m.Charge(n) != want {
		t.Errorf("Charge(%d) = %t", n, !want)
	}
}

func join(t *testing.T, m, p *gas.Meter, want api.Errno) {
	t.Helper()
	if e := m.Join(p); e != want {
		t.Errorf("Join: %v, want %v", e, want)
	}
}

// noPart holds that Part is refused, with no meter.
func noPart(t *testing.T, m *gas.Meter, limit int64, want api.Errno) {
	t.Helper()
	if p, e := m.Part(limit); p != nil || e != want {
		t.Errorf("Part(%d) = %v, %v, want %v", limit, p, e, want)
	}
}

func TestExamplesMeter(t *testing.T) {
	m := meter(t, 10)
	charge(t, m, 4, true)
	p := part(t, m, 9)
	reads(t, "the part", p, 6, 0, false)
	reads(t, "the meter", m, 0, 10, false)
	charge(t, p, 3, true)
	noPart(t, m, 1, api.ErrGasPart)
	join(t, m, p, api.OK)
	reads(t, "the meter, joined", m, 3, 7, false)
	reads(t, "the part, joined", p, 0, 6, false)
	join(t, m, p, api.ErrGasPart)
	charge(t, m, 4, false)
	reads(t, "the meter, spent", m, 0, 10, true)
	charge(t, m, 0, false)
	charge(t, m, -1, false)
}

// limits that may be, and some that may not.
var (
	goods = []int64{0, 1, 2, 10, 999999, 1000000}
	bads  = []int64{-1, -2, -1000000, 1000001, 1000002, math.MaxInt32, math.MinInt32, 1 << 32, 1<<32 + 1, math.MaxInt64, math.MinInt64}
)

func TestP112New(t *testing.T) {
	for _, limit := range goods {
		reads(t, "a new meter", meter(t, limit), limit, 0, false)
	}
	for _, limit := range bads {
		if m, e := gas.New(limit); m != nil || e != api.ErrGasLimit {
			t.Errorf("New(%d) = %v, %v", limit, m, e)
		}
	}
}

func TestP113Charge(t *testing.T) {
	m := meter(t, 10)
	charge(t, m, 0, true)
	reads(t, "charged nothing", m, 10, 0, false)
	charge(t, m, 3, true)
	reads(t, "charged 3", m, 7, 3, false)
	charge(t, m, 7, true)
	reads(t, "charged all", m, 0, 10, false)
	// A meter that is used up is not spent yet: it can pay nothing.
	charge(t, m, 0, true)
	reads(t, "charged nothing of nothing", m, 0, 10, false)
	charge(t, m, 1, false)
	reads(t, "charged 1 of nothing", m, 0, 10, true)
	charge(t, m, 0, false)
	reads(t, "charged nothing, spent", m, 0, 10, true)
}

// What is left is lost as soon as more is asked, however little more.
func TestP113Spent(t *testing.T) {
	for _, limit := range goods {
		for _, n := range []int64{limit + 1, limit + 2, 1 << 40, math.MaxInt64 - 1, math.MaxInt64} {
			m := meter(t, limit)
			charge(t, m, n, false)
			reads(t, "spent at once", m, 0, limit, true)
			charge(t, m, 0, false)
			charge(t, m, 1, false)
			charge(t, m, -1, false)
			charge(t, m, math.MaxInt64, false)
			reads(t, "spent, asked again", m, 0, limit, true)
		}
		m := meter(t, limit)
		charge(t, m, limit, true)
		reads(t, "charged its limit", m, 0, limit, false)
	}
}

func TestP113BelowNought(t *testing.T) {
	m := meter(t, 10)
	charge(t, m, 4, true)
	for _, n := range []int64{-1, -4, -6, -10, math.MinInt64, math.MinInt64 + 1} {
		charge(t, m, n, false)
		reads(t, "charged below 0", m, 6, 4, false)
	}
	charge(t, m, 6, true)
	charge(t, m, -1, false)
	reads(t, "charged below 0, used up", m, 0, 10, false)
}

// P11.4: what is asked changes nothing.
func TestP114Asking(t *testing.T) {
	m := meter(t, 10)
	charge(t, m, 4, true)
	for range 3 {
		reads(t, "asked", m, 6, 4, false)
	}
	charge(t, m, 7, false)
	for range 3 {
		reads(t, "asked, spent", m, 0, 10, true)
	}
}

func TestP115Part(t *testing.T) {
	for _, limit := range goods {
		for _, asked := range goods {
			m := meter(t, limit)
			p := part(t, m, asked)
			had := min(limit, asked)
			reads(t, "the part", p, had, 0, false)
			reads(t, "the meter", m, limit-had, had, false)
		}
	}
	m := meter(t, 10)
	charge(t, m, 4, true)
	p := part(t, m, 2)
	reads(t, "a part of some", p, 2, 0, false)
	reads(t, "what it is taken of", m, 4, 6, false)
}

func TestP115Refused(t *testing.T) {
	m := meter(t, 10)
	charge(t, m, 1, true)
	for _, limit := range bads {
		noPart(t, m, limit, api.ErrGasLimit)
		reads(t, "Part refused by its limit", m, 9, 1, false)
	}
	p := part(t, m, 5)
	for _, limit := range goods {
		noPart(t, m, limit, api.ErrGasPart)
	}
	// The limit is asked first.
	for _, limit := range bads {
		noPart(t, m, limit, api.ErrGasLimit)
	}
	reads(t, "the meter, still", m, 4, 6, false)
	reads(t, "the part, still", p, 5, 0, false)
	join(t, m, p, api.OK)
	reads(t, "the meter, joined", m, 9, 1, false)
}

// A part of nothing is out all the same.
func TestP115PartOfNothing(t *testing.T) {
	m := meter(t, 0)
	p := part(t, m, 1000000)
	reads(t, "a part of nothing", p, 0, 0, false)
	noPart(t, m, 0, api.ErrGasPart)
	charge(t, p, 0, true)
	charge(t, p, 1, false)
	reads(t, "a part of nothing, spent", p, 0, 0, true)
	join(t, m, p, api.OK)
	reads(t, "its meter", m, 0, 0, false)
	q := part(t, m, 0)
	join(t, m, p, api.ErrGasPart)
	join(t, m, q, api.OK)
}

// The meter and its part are charged each for itself.
func TestP115OnTheirOwn(t *testing.T) {
	m := meter(t, 10)
	p := part(t, m, 6)
	charge(t, m, 3, true)
	reads(t, "the part, its meter charged", p, 6, 0, false)
	charge(t, p, 5, true)
	reads(t, "the meter, its part charged", m, 1, 9, false)
	charge(t, p, 2, false)
	reads(t, "the part, spent", p, 0, 6, true)
	reads(t, "the meter, its part spent", m, 1, 9, false)
	charge(t, m, 1, true)
}

func TestP115PartOfAPart(t *testing.T) {
	m := meter(t, 10)
	p := part(t, m, 8)
	q := part(t, p, 5)
	r := part(t, q, 9)
	reads(t, "m", m, 2, 8, false)
	reads(t, "p", p, 3, 5, false)
	reads(t, "q", q, 0, 5, false)
	reads(t, "r", r, 5, 0, false)
	charge(t, r, 1, true)
	charge(t, p, 1, true)
	charge(t, m, 1, true)
	join(t, q, r, api.OK)
	join(t, p, q, api.OK)
	join(t, m, p, api.OK)
	reads(t, "m, all joined", m, 7, 3, false)
	reads(t, "p, all joined", p, 0, 8, false)
	reads(t, "q, all joined", q, 0, 5, false)
	reads(t, "r, all joined", r, 0, 5, false)
}

func TestP115PartOfASpentMeter(t *testing.T) {
	m := meter(t, 10)
	charge(t, m, 11, false)
	p := part(t, m, 5)
	reads(t, "a spent meter's part", p, 0, 0, false)
	charge(t, p, 0, true)
	join(t, m, p, api.OK)
	reads(t, "a spent meter", m, 0, 10, true)
}

// What comes back to a spent meter is left of it, but can be used no more: neither by itself, nor by a part.
func TestP115PartOfASpentMeterThatWasGivenBack(t *testing.T) {
	m := meter(t, 10)
	p := part(t, m, 6)
	charge(t, m, 5, false)
	reads(t, "spent while a part is out", m, 0, 10, true)
	join(t, m, p, api.OK)
	reads(t, "given back", m, 6, 4, true)
	charge(t, m, 0, false)
	charge(t, m, 1, false)
	charge(t, m, 7, false)
	reads(t, "asked again", m, 6, 4, true)
	q := part(t, m, 3)
	reads(t, "a spent meter's part", q, 0, 0, false)
	reads(t, "a spent meter with a part", m, 6, 4, true)
	join(t, m, q, api.OK)
	reads(t, "joined again", m, 6, 4, true)
}

func TestP116Join(t *testing.T) {
	m := meter(t, 10)
	p := part(t, m, 6)
	charge(t, p, 2, true)
	join(t, m, p, api.OK)
	reads(t, "the meter", m, 8, 2, false)
	reads(t, "the part", p, 0, 6, false)
	// The part goes on as a meter of which nothing is left.
	charge(t, p, 0, true)
	charge(t, p, -1, false)
	reads(t, "the part, joined", p, 0, 6, false)
	q := part(t, p, 7)
	reads(t, "the joined part's part", q, 0, 0, false)
	charge(t, p, 1, false)
	reads(t, "the part, spent", p, 0, 6, true)
	join(t, p, q, api.OK)
	reads(t, "the meter, still", m, 8, 2, false)
	// No part is out: the next one may be.
	r := part(t, m, 8)
	join(t, m, p, api.ErrGasPart)
	join(t, m, r, api.OK)
	reads(t, "the meter, joined again", m, 8, 2, false)
}

func TestP116JoinOfASpentPart(t *testing.T) {
	m := meter(t, 10)
	p := part(t, m, 6)
	charge(t, p, 7, false)
	join(t, m, p, api.OK)
	reads(t, "the meter", m, 4, 6, false)
	reads(t, "the part", p, 0, 6, true)
	charge(t, m, 4, true)
}

func TestP116Refused(t *testing.T) {
	m, other := meter(t, 10), meter(t, 10)
	join(t, m, nil, api.ErrNil)
	join(t, m, m, api.ErrGasPart)
	join(t, m, other, api.ErrGasPart)
	p, stranger := part(t, m, 6), part(t, other, 6)
	q := part(t, p, 4)
	join(t, m, nil, api.ErrNil)
	join(t, m, m, api.ErrGasPart)
	join(t, m, other, api.ErrGasPart)
	join(t, m, stranger, api.ErrGasPart)
	join(t, m, q, api.ErrGasPart) // a part's part
	join(t, m, p, api.ErrGasPart) // it has one out
	join(t, p, m, api.ErrGasPart) // the other way round
	join(t, p, p, api.ErrGasPart)
	join(t, q, p, api.ErrGasPart)
	join(t, q, q, api.ErrGasPart)
	reads(t, "m", m, 4, 6, false)
	reads(t, "p", p, 2, 4, false)
	reads(t, "q", q, 4, 0, false)
	noPart(t, m, 1, api.ErrGasPart)
	noPart(t, p, 1, api.ErrGasPart)
	join(t, p, q, api.OK)
	join(t, p, q, api.ErrGasPart)
	join(t, m, p, api.OK)
	join(t, other, stranger, api.OK)
	reads(t, "m, joined", m, 10, 0, false)
	reads(t, "other, joined", other, 10, 0, false)
}

func TestP117Nil(t *testing.T) {
	var none *gas.Meter
	for _, n := range append(append([]int64{}, goods...), bads...) {
		charge(t, none, n, false)
		noPart(t, none, n, api.ErrNil)
	}
	reads(t, "a nil meter", none, 0, 0, false)
	join(t, none, nil, api.ErrNil)
	m := meter(t, 10)
	p := part(t, m, 5)
	for _, x := range []*gas.Meter{m, p} {
		join(t, none, x, api.ErrNil)
		join(t, x, nil, api.ErrNil)
	}
	reads(t, "the meter", m, 5, 5, false)
	join(t, m, p, api.OK)
}

// book is a second reading of the chapter: a meter as all that was ever written down of it.
type book struct {
	limit int64
	rows  []int64 // what was taken; what came back, below 0
	spent bool
	out   *book
	paid  int64 // what it, and the parts that were joined again, were charged with true
	lost  int64 // what it, and these, had when they were spent
}

func (b *book) left() int64 {
	left := b.limit
	for _, n := range b.rows {
		left -= n
	}
	return left
}

func (b *book) charge(n int64) bool {
	left := b.left()
	switch {
	case n < 0, b.spent:
		return false
	case n > left:
		b.rows, b.spent, b.lost = append(b.rows, left), true, b.lost+left
		return false
	}
	b.rows, b.paid = append(b.rows, n), b.paid+n
	return true
}

func (b *book) part(limit int64) (*book, api.Errno) {
	if limit < 0 || limit > 1000000 {
		return nil, api.ErrGasLimit
	}
	if b.out != nil {
		return nil, api.ErrGasPart
	}
	if left := b.left(); left < limit {
		limit = left
	}
	if b.spent {
		limit = 0
	}
	b.rows = append(b.rows, limit)
	b.out = &book{limit: limit}
	return b.out, api.OK
}

func (b *book) join(p *book) api.Errno {
	if p == nil {
		return api.ErrNil
	}
	if b.out == nil || b.out != p || p.out != nil {
		return api.ErrGasPart
	}
	left := p.left()
	b.rows, p.rows, b.out = append(b.rows, -left), append(p.rows, left), nil
	b.paid, b.lost = b.paid+p.paid, b.lost+p.lost
	return api.OK
}

// world is some meters, and the books that are kept of them.
type world struct {
	t      *testing.T
	meters []*gas.Meter
	books  []*book
	said   []string
	seen   map[string]int
}

func begin(t *testing.T, seen map[string]int, limits ...int64) *world {
	w := &world{t: t, seen: seen}
	for _, limit := range limits {
		w.meters, w.books = append(w.meters, meter(t, limit)), append(w.books, &book{limit: limit})
	}
	return w
}

func (w *world) say(words ...string) { w.said = append(w.said, strings.Join(words, " ")) }

func (w *world) fail(what string) {
	w.t.Helper()
	w.t.Fatalf("%s; after %s", what, strings.Join(w.said, ", "))
}

func (w *world) charge(i int, n int64) {
	w.say("charge", strconv.Itoa(i), strconv.FormatInt(n, 10))
	want := w.books[i].charge(n)
	if w.meters[i].Charge(n) != want {
		w.fail("Charge")
	}
	w.seen["charge "+strconv.FormatBool(want)]++
}

func (w *world) part(i int, limit int64) {
	w.say("part", strconv.Itoa(i), strconv.FormatInt(limit, 10))
	b, want := w.books[i].part(limit)
	m, e := w.meters[i].Part(limit)
	if e != want || (m == nil) != (b == nil) {
		w.fail("Part")
	}
	if m != nil {
		w.meters, w.books = append(w.meters, m), append(w.books, b)
	}
	w.seen["part "+want.Error()]++
}

func (w *world) join(i, k int) {
	w.say("join", strconv.Itoa(i), strconv.Itoa(k))
	want := w.books[i].join(w.books[k])
	if w.meters[i].Join(w.meters[k]) != want {
		w.fail("Join")
	}
	w.seen["join "+want.Error()]++
	if want == api.OK && w.books[i].spent && w.books[i].left() > 0 {
		w.seen["given back to a spent one"]++
	}
}

// look holds all meters against their books, and against P11.8.
func (w *world) look() {
	for i, b := range w.books {
		m := w.meters[i]
		if m.Left() != b.left() || m.Used() != b.limit-b.left() || m.Spent() != b.spent {
			w.fail("the meter " + strconv.Itoa(i))
		}
		if m.Left() < 0 || m.Used() < 0 || m.Left()+m.Used() != b.limit {
			w.fail("left and used of the meter " + strconv.Itoa(i))
		}
	}
	// The first ones were parted from none, so nothing of them has gone elsewhere.
	if b := w.books[0]; b.out == nil && w.meters[0].Used() != b.paid+b.lost {
		w.fail("what was used is not what was paid and lost")
	}
}

// asks fails if some answers were hardly ever come to.
func asks(t *testing.T, seen map[string]int, least int) {
	t.Helper()
	for _, what := range []string{
		"charge true", "charge false", "part " + api.OK.Error(), "part " + api.ErrGasLimit.Error(), "part " + api.ErrGasPart.Error(),
		"join " + api.OK.Error(), "join " + api.ErrGasPart.Error(), "given back to a spent one",
	} {
		if seen[what] < least {
			t.Errorf("the test asks too little: %s %d times", what, seen[what])
		}
	}
}

// Every short row of calls, on one meter and the parts that come of it.
func TestP118EveryShortRow(t *testing.T) {
	seen := map[string]int{}
	acts := []func(*world){
		func(w *world) { w.charge(0, 1) },
		func(w *world) { w.charge(0, 3) },
		func(w *world) { w.part(0, 2) },
		func(w *world) { w.part(0, -1) },
		func(w *world) { w.charge(len(w.books)-1, 1) },
		func(w *world) { w.charge(len(w.books)-1, 4) },
		func(w *world) { w.part(len(w.books)-1, 1) },
		func(w *world) { w.join(0, len(w.books)-1) },
		func(w *world) { w.join(0, min(1, len(w.books)-1)) },
		func(w *world) { w.join(max(0, len(w.books)-2), len(w.books)-1) },
	}
	const long = 5
	rows := 1
	for range long {
		rows *= len(acts)
	}
	for row := range rows {
		w := begin(t, seen, 4)
		for range long {
			acts[row%len(acts)](w)
			row /= len(acts)
			w.look()
		}
	}
	asks(t, seen, 1000)
}

func TestP118Random(t *testing.T) {
	seen := map[string]int{}
	for seed := range int64(2000) {
		dice := rand.New(rand.NewSource(seed))
		w := begin(t, seen, dice.Int63n(40), dice.Int63n(1000001))
		for range 60 {
			i := dice.Intn(len(w.books))
			switch dice.Intn(5) {
			case 0, 1:
				w.charge(i, dice.Int63n(9)-1)
			case 2:
				w.part(i, dice.Int63n(25)-2)
			case 3:
				w.join(i, dice.Intn(len(w.books)))
			case 4:
				for k, b := range w.books {
					if b == w.books[i].out {
						w.join(i, k)
						break
					}
				}
			}
			w.look()
		}
	}
	asks(t, seen, 500)
}

// P11.8: what a meter and its parts, joined again, paid is what was used of it; what a spent one had is used besides.
func TestP118WhatWasUsed(t *testing.T) {
	m := meter(t, 100)
	charge(t, m, 7, true)
	p := part(t, m, 50)
	charge(t, p, 11, true)
	q := part(t, p, 20)
	charge(t, q, 13, true)
	join(t, p, q, api.OK)
	charge(t, p, 2, true)
	join(t, m, p, api.OK)
	reads(t, "paid by all", m, 67, 33, false)
	r := part(t, m, 30)
	charge(t, r, 29, true)
	charge(t, r, 2, false)
	join(t, m, r, api.OK)
	reads(t, "one was spent", m, 37, 63, false)
}

// R4: what a meter answers hangs on the calls on it and on its parts alone.
func TestR4OthersAreLeftAlone(t *testing.T) {
	a, b := meter(t, 10), meter(t, 10)
	p := part(t, a, 4)
	reads(t, "the other one", b, 10, 0, false)
	q := part(t, b, 4)
	charge(t, p, 9, false)
	charge(t, a, 9, false)
	reads(t, "the other one's part", q, 4, 0, false)
	reads(t, "the other one", b, 6, 4, false)
	join(t, a, q, api.ErrGasPart)
	join(t, b, p, api.ErrGasPart)
	join(t, b, q, api.OK)
	reads(t, "the other one, joined", b, 10, 0, false)
}

// R1: a meter that no call gave is one of nothing; one that was copied is no part.
func TestR1MetersThatNoCallGave(t *testing.T) {
	var zero gas.Meter
	reads(t, "the zero meter", &zero, 0, 0, false)
	p := part(t, &zero, 5)
	reads(t, "its part", p, 0, 0, false)
	join(t, &zero, p, api.OK)
	join(t, &zero, &gas.Meter{}, api.ErrGasPart)
	charge(t, &zero, 0, true)
	charge(t, &zero, 1, false)
	reads(t, "the zero meter, spent", &zero, 0, 0, true)

	m := meter(t, 10)
	p = part(t, m, 6)
	twin := *p
	join(t, m, &twin, api.ErrGasPart)
	*p = *m // its part that is out is itself now
	join(t, p, p, api.ErrGasPart)
	join(t, m, p, api.ErrGasPart)
}
