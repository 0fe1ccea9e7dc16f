package eval

import (
	"scruple/api"
	"scruple/prim"
	"scruple/visit"
)

// expression is how a node that comes to a value is run.
type expression interface {
	value(f *frame) (api.Value, error)
}

// literal is a Lit, and every other const.
type literal struct{ is api.Value }

func (l literal) value(f *frame) (api.Value, error) { return l.is, f.pay(api.OpConst, 0) }

// variable is a Name.
type variable struct{ name string }

func (v variable) value(f *frame) (api.Value, error) { return f.locals[v.name], f.pay(api.OpGet, 0) }

// call is a Call of a Fn.
type call struct {
	name string
	args []expression
}

func (c call) value(f *frame) (api.Value, error) {
	args, err := f.values(nil, c.args)
	if err != nil {
		return api.Value{}, err
	}
	if err := f.pay(api.OpCall, 0); err != nil {
		return api.Value{}, err
	}
	if f.depth == api.MaxFrames {
		return api.Value{}, trapped(api.TrapDepth)
	}
	return f.enter(f.functions[c.name], args)
}

// chain is a Binary, an At or a Dot. Its first Kid may be one, too, and so on, as many as a tree has nodes: these are
// gone through one behind the other, since they are too many to go down into them.
type chain struct {
	first expression
	links []link // what goes on with its value, the innermost first
}

// link is how a node is run whose first Kid has come to a value.
type link interface {
	behind(f *frame, first api.Value) (api.Value, error)
}

func (c chain) value(f *frame) (api.Value, error) {
	v, err := c.first.value(f)
	for _, l := range c.links {
		if err != nil {
			return api.Value{}, err
		}
		v, err = l.behind(f, v)
	}
	return v, err
}

// operation is a node that makes one value of those of its Kids: of all, or of all but the first one.
type operation struct {
	op    int
	extra api.Value
	kids  []expression
	rated bool // what it costs hangs on the weight of what it takes
}

func (o operation) value(f *frame) (api.Value, error) { return o.made(f, nil) }

func (o operation) behind(f *frame, first api.Value) (api.Value, error) {
	return o.made(f, []api.Value{first})
}

// made is what it makes of some values and those of its Kids. Where its cost hangs on no weight, nothing is weighed: a
// heavy value would be gone through at each step.
func (o operation) made(f *frame, there []api.Value) (api.Value, error) {
	taken, err := f.values(there, o.kids)
	if err != nil {
		return api.Value{}, err
	}
	weight := 0
	if o.rated {
		weight = visit.Weight(o.op, taken, f.store)
	}
	if err := f.pay(o.op, weight); err != nil {
		return api.Value{}, err
	}
	v, trap := o.does(f, taken)
	if trap != 0 {
		return api.Value{}, trapped(trap)
	}
	return v, nil
}

func (o operation) does(f *frame, taken []api.Value) (api.Value, int) {
	if prim.Pure(o.op) {
		return prim.Do(o.op, o.extra, taken)
	}
	return visit.Do(o.op, taken, f.store)
}

// shortcut is `&&` or `||`: its second Kid is passed by, if the first one comes to what settles it.
type shortcut struct {
	settles bool
	second  expression
}

func (s shortcut) behind(f *frame, first api.Value) (api.Value, error) {
	yes, err := f.decide(api.OpUnless, first)
	if err != nil {
		return api.Value{}, err
	}
	v, err := s.rest(f, yes)
	if err == nil && yes { // where it is false, that which stands last is gone to
		err = f.pay(api.OpJump, 0)
	}
	return v, err
}

func (s shortcut) rest(f *frame, yes bool) (api.Value, error) {
	if yes == s.settles {
		return literal{truth(yes)}.value(f)
	}
	v, err := s.second.value(f)
	if err != nil {
		return api.Value{}, err
	}
	_, err = f.decide(api.OpTest, v)
	return v, err
}

func truth(is bool) api.Value {
	if is {
		return api.Value{Kind: api.Bool, N: 1}
	}
	return api.Value{Kind: api.Bool}
}
