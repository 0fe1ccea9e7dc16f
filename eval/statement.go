package eval

import "scruple/api"

// way is where a frame goes on behind a statement.
type way int

const (
	onward  way = iota // behind it
	outward            // behind the innermost While
	again              // at that While's condition
	back               // nowhere: it has returned
)

// statement is how a node that says what to do is run. All instructions of it are paid for, the jump of a Break, too.
type statement interface {
	do(f *frame) (way, error)
}

type block []statement

func (b block) do(f *frame) (way, error) {
	for _, s := range b {
		if w, err := s.do(f); err != nil || w != onward {
			return w, err
		}
	}
	return onward, nil
}

// assign is a Set, or a Let with an expression.
type assign struct {
	name string
	from expression
}

func (a assign) do(f *frame) (way, error) {
	v, err := f.taken(api.OpSet, a.from)
	if err == nil {
		f.locals[a.name] = v
	}
	return onward, err
}

// discard is a Do.
type discard struct{ from expression }

func (d discard) do(f *frame) (way, error) {
	_, err := f.taken(api.OpPop, d.from)
	return onward, err
}

// giveBack is a Return, or a Fn's end.
type giveBack struct{ from expression }

func (g giveBack) do(f *frame) (way, error) {
	v, err := f.taken(api.OpRet, g.from)
	f.result = v
	return back, err
}

// leave is a Break or a Continue.
type leave struct{ to way }

func (l leave) do(f *frame) (way, error) { return l.to, f.pay(api.OpJump, 0) }

// guarded is a Block, and the condition of going through it.
type guarded struct {
	condition expression
	body      block
	jumps     bool // from its end over, or back, to somewhere else
}

func (g guarded) asked(f *frame) (bool, error) {
	v, err := g.condition.value(f)
	if err != nil {
		return false, err
	}
	return f.decide(api.OpUnless, v)
}

// through goes through the Block.
func (g guarded) through(f *frame) (way, error) {
	w, err := g.body.do(f)
	if err == nil && w == onward && g.jumps {
		err = f.pay(api.OpJump, 0)
	}
	return w, err
}

// choice is an If, with all that stand in its else, and in theirs: these may be as many as a tree has nodes, too many
// to go down into them.
type choice struct {
	ways  []guarded
	other block
}

func (c choice) do(f *frame) (way, error) {
	for _, g := range c.ways {
		if yes, err := g.asked(f); err != nil {
			return onward, err
		} else if yes {
			return g.through(f)
		}
	}
	return c.other.do(f)
}

// loop is a While.
type loop struct{ guarded }

func (l loop) do(f *frame) (way, error) {
	for {
		yes, err := l.asked(f)
		if err != nil || !yes {
			return onward, err
		}
		w, err := l.through(f)
		if err != nil || w == back {
			return w, err
		}
		if w == outward {
			return onward, nil
		}
	}
}
