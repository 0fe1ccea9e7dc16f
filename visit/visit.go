// Package visit does the store's instructions, and weighs what instructions take: one meaning for both machines and for
// a source's own run. DOC.md tells it ('The machine').
package visit

import (
	"scruple/api"
	"scruple/store"
	"scruple/value"
)

// Weight is what an instruction's cost hangs on: of what it takes, and of load besides of what stands in the store under
// that key.
func Weight(op int, taken []api.Value, s *store.Store) int {
	total := 0
	for _, v := range taken {
		total += value.Weight(v)
	}
	if op == api.OpLoad && taken[0].Kind == api.Bytes {
		if v, there := s.Get(taken[0].S); there {
			total += value.Weight(v)
		}
	}
	return total
}

// Do is what load, save, drop or after gives, and 0; or the zero Value and a trap. As many right values are taken as
// the instruction takes.
func Do(op int, taken []api.Value, s *store.Store) (api.Value, int) {
	if taken[0].Kind != api.Bytes {
		return api.Value{}, api.TrapType
	}
	key := taken[0].S
	if len(key) > api.MaxKey || key == "" && op != api.OpAfter {
		return api.Value{}, api.TrapStore
	}
	switch op {
	case api.OpLoad:
		v, _ := s.Get(key) // Unit, where nothing stands
		return v, 0
	case api.OpSave:
		if s.Put(key, taken[1]) != api.OK {
			return api.Value{}, api.TrapStore
		}
		return api.Value{}, 0
	case api.OpDrop:
		return truth(s.Delete(key)), 0
	}
	return after(key, s), 0
}

// after is the least key of a store above another one; Unit, if there is none.
func after(key string, s *store.Store) api.Value {
	next, there := s.After(key)
	if !there {
		return api.Value{}
	}
	return api.Value{Kind: api.Bytes, S: next}
}

func truth(is bool) api.Value {
	if is {
		return api.Value{Kind: api.Bool, N: 1}
	}
	return api.Value{Kind: api.Bool}
}
