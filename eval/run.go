package eval

import (
	"scruple/api"
	"scruple/gas"
	"scruple/store"
)

// run is one that is under way. Its values are never written into, so the tree, variables and operands share their
// memory; only what it returns is copied.
type run struct {
	functions map[string]function // by their names
	store     *store.Store
	meter     *gas.Meter
	depth     int // frames that there are
}

// frame is a call that is under way. Of all variables of one name at most one is visible at a time, and it is set ahead
// of being read: so what was left under a name is never met again.
type frame struct {
	*run
	locals map[string]api.Value
	result api.Value // what it has returned
}

// enter calls a function with as many arguments as it has parameters.
func (r *run) enter(f function, args []api.Value) (api.Value, error) {
	inner := &frame{run: r, locals: map[string]api.Value{}}
	for i, name := range f.params {
		inner.locals[name] = args[i]
	}
	r.depth++
	_, err := f.body.do(inner)
	r.depth--
	return inner.result, err
}

// pay pays for an instruction that takes a weight.
func (r *run) pay(op, weight int) error {
	cost, e := gas.Cost(op, weight)
	if e != api.OK { // of more weight than a cost is told of: dearer than all gas that may be
		cost = api.MaxGas + 1
	}
	if !r.meter.Charge(cost) {
		return ending{kind: api.Spent}
	}
	return nil
}

// values are what expressions come to, one behind the other, behind some that are there.
func (f *frame) values(there []api.Value, l []expression) ([]api.Value, error) {
	for _, x := range l {
		v, err := x.value(f)
		if err != nil {
			return nil, err
		}
		there = append(there, v)
	}
	return there, nil
}

// taken is what an expression comes to, and an instruction takes, whose cost hangs on no weight.
func (f *frame) taken(op int, x expression) (api.Value, error) {
	v, err := x.value(f)
	if err != nil {
		return api.Value{}, err
	}
	return v, f.pay(op, 0)
}

// decide is unless or test: it asks a value that must be a Bool whether it is true.
func (f *frame) decide(op int, v api.Value) (bool, error) {
	if err := f.pay(op, 0); err != nil {
		return false, err
	}
	if v.Kind != api.Bool {
		return false, trapped(api.TrapType)
	}
	return v.N == 1, nil
}
