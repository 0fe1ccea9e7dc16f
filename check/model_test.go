package check_test

import (
	"strings"

	"scruple/api"
	"scruple/print"
)

// The model reads a tree into points, one behind the other as the source is read, each with those that may come next:
// a name is not set at a point just if a way leads there from its Let that passes no Set of it. It knows of no sets,
// and no names are taken away again.

// builtins are DOC.md's: each name with how many arguments it has.
const builtins = " len:1 push:2 change:3 slice:3 with:3 without:2 keys:1 has:2 kind:1 digest:1 abort:1 load:1 save:2 drop:1 after:1 "

// modelBuiltin is the place of a built-in function in that row, from 0 on, and how many arguments it has.
func modelBuiltin(name string) (int, int, bool) {
	if name == "" || strings.ContainsAny(name, " :") {
		return 0, 0, false
	}
	ahead, behind, ok := strings.Cut(builtins, " "+name+":")
	if !ok {
		return 0, 0, false
	}
	return strings.Count(ahead, ":"), int(behind[0] - '0'), true
}

// variable is one that is visible, with those around it.
type variable struct {
	name   string
	number int
	outer  *variable
}

func (v *variable) find(name string) *variable {
	for ; v != nil; v = v.outer {
		if v.name == name {
			return v
		}
	}
	return nil
}

// What a point does with a variable.
const (
	nothing = iota
	begins  // a Let without an expression
	sets
	reads
)

type point struct {
	at     int
	code   api.Errno
	does   int
	number int // the variable's
	next   []int
}

// reader reads one function.
type reader struct {
	program api.Node
	points  []point
	from    []int // the points from which the next one is come to
	count   int   // variables
	exits   [][]int
	again   []int // the points at which the Whiles around begin
}

// put is a point more; ways lead to it from all of from.
func (r *reader) put(n api.Node, code api.Errno) int {
	number := len(r.points)
	r.points = append(r.points, point{at: n.At, code: code})
	for _, i := range r.from {
		r.points[i].next = append(r.points[i].next, number)
	}
	r.from = []int{number}
	return number
}

// must puts a fault, unless ok.
func (r *reader) must(n api.Node, ok bool, code api.Errno) {
	if ok {
		code = api.OK
	}
	r.put(n, code)
}

func (r *reader) use(n api.Node, does, number int) {
	i := r.put(n, api.OK)
	r.points[i].does, r.points[i].number = does, number
}

func (r *reader) declare(n api.Node, seen *variable, set bool) *variable {
	r.must(n, seen.find(n.Text) == nil, api.ErrCheckTwice)
	r.count++
	if !set {
		r.use(n, begins, r.count)
	}
	return &variable{n.Text, r.count, seen}
}

func (r *reader) function(fn api.Node) {
	r.put(fn, api.OK)
	var seen *variable
	for _, kid := range fn.Kids {
		if kid.Kind == api.Param {
			seen = r.declare(kid, seen, true)
		} else {
			r.block(kid, seen)
		}
	}
}

func (r *reader) block(n api.Node, seen *variable) {
	for _, kid := range n.Kids {
		seen = r.statement(kid, seen)
	}
}

// statement reads one, and tells what is visible behind it.
func (r *reader) statement(n api.Node, seen *variable) *variable {
	switch n.Kind {
	case api.Let:
		r.exprs(n.Kids, seen)
		return r.declare(n, seen, len(n.Kids) == 1)
	case api.Set:
		r.exprs(n.Kids, seen)
		v := seen.find(n.Text)
		r.must(n, v != nil, api.ErrCheckName)
		if v != nil {
			r.use(n, sets, v.number)
		}
	case api.If:
		r.choice(n, seen)
	case api.While:
		r.loop(n, seen)
	case api.Return:
		r.exprs(n.Kids, seen)
		r.from = nil
	case api.Break, api.Continue:
		r.must(n, len(r.again) > 0, api.ErrCheckLoop)
		r.jump(n)
	default:
		r.exprs(n.Kids, seen)
	}
	return seen
}

func (r *reader) choice(n api.Node, seen *variable) {
	r.exprs(n.Kids[:1], seen)
	ahead := r.from
	r.block(n.Kids[1], seen)
	one := r.from
	r.from = ahead
	if len(n.Kids) == 3 && n.Kids[2].Kind == api.If {
		r.choice(n.Kids[2], seen)
	} else if len(n.Kids) == 3 {
		r.block(n.Kids[2], seen)
	}
	r.from = append(append([]int{}, one...), r.from...)
}

func (r *reader) loop(n api.Node, seen *variable) {
	begin := r.put(n, api.OK)
	r.exprs(n.Kids[:1], seen)
	behind := r.from
	r.again, r.exits = append(r.again, begin), append(r.exits, nil)
	r.block(n.Kids[1], seen)
	last := len(r.again) - 1
	for _, i := range r.from {
		r.points[i].next = append(r.points[i].next, begin)
	}
	r.from = append(append([]int{}, behind...), r.exits[last]...)
	r.again, r.exits = r.again[:last], r.exits[:last]
}

// jump leads to the begin, or behind the end, of the innermost While.
func (r *reader) jump(n api.Node) {
	last := len(r.again) - 1
	for _, i := range r.from {
		if last >= 0 && n.Kind == api.Continue {
			r.points[i].next = append(r.points[i].next, r.again[last])
		} else if last >= 0 {
			r.exits[last] = append(r.exits[last], i)
		}
	}
	r.from = nil
}

func (r *reader) exprs(l []api.Node, seen *variable) {
	for i, n := range l {
		switch n.Kind {
		case api.Name:
			v := seen.find(n.Text)
			r.must(n, v != nil, api.ErrCheckName)
			if v != nil {
				r.use(n, reads, v.number)
			}
		case api.Call:
			count := r.arguments(n.Text)
			r.must(n, count >= 0, api.ErrCheckName)
			r.must(n, count == len(n.Kids), api.ErrCheckArity)
		case api.Pair:
			twice := false
			for _, earlier := range l[:i] {
				twice = twice || earlier.Text == n.Text
			}
			r.must(n, !twice, api.ErrCheckTwice)
		}
		r.exprs(n.Kids, seen)
	}
}

// arguments is how many a function has, -1 if there is none.
func (r *reader) arguments(name string) int {
	if _, count, ok := modelBuiltin(name); ok {
		return count
	}
	for _, fn := range r.program.Kids {
		if fn.Text == name {
			return len(fn.Kids) - 1
		}
	}
	return -1
}

// reached marks all points to which ways lead from some, and does not go on behind one that stops it.
func (r *reader) reached(from []int, stops func(p point) bool) []bool {
	seen := make([]bool, len(r.points))
	for len(from) > 0 {
		i := from[0]
		from = from[1:]
		if !seen[i] {
			seen[i] = true
			if !stops(r.points[i]) {
				from = append(append([]int{}, from...), r.points[i].next...)
			}
		}
	}
	return seen
}

// unset marks each point that reads what is not set there.
func (r *reader) unset() {
	live := r.reached([]int{0}, func(point) bool { return false })
	for i, p := range r.points {
		if p.does != begins || !live[i] {
			continue
		}
		seen := r.reached(p.next, func(q point) bool { return q.does == sets && q.number == p.number })
		for j := range r.points {
			if q := &r.points[j]; seen[j] && q.does == reads && q.number == p.number {
				q.code = api.ErrCheckUnset
			}
		}
	}
}

func modelHeads(n api.Node) (int, api.Errno) {
	for i, fn := range n.Kids {
		_, _, twice := modelBuiltin(fn.Text)
		for _, earlier := range n.Kids[:i] {
			twice = twice || earlier.Text == fn.Text
		}
		if twice {
			return fn.At, api.ErrCheckTwice
		}
		if len(fn.Kids) > 9 {
			return fn.At, api.ErrCheckParams
		}
	}
	return 0, api.OK
}

func model(n api.Node) (int, api.Errno) {
	if !print.Right(n) {
		return 0, api.ErrCheckForm
	}
	if at, e := modelHeads(n); e != api.OK {
		return at, e
	}
	for _, fn := range n.Kids {
		r := &reader{program: n}
		r.function(fn)
		r.unset()
		for _, p := range r.points {
			if p.code != api.OK {
				return p.at, p.code
			}
		}
	}
	return 0, api.OK
}
