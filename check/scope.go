package check

import (
	"slices"

	"scruple/api"
)

// way is what is set where a way has led to.
type way struct {
	set []bool // by the numbers of the variables that are visible
	all bool   // behind a Return, Break, Continue: everything is, a variable that comes later, too
}

func (w way) copied() way { return way{slices.Clone(w.set), w.all} }

// joined is what is set behind both ways. One that has ended takes nothing from the other one. They see the same
// variables.
func joined(a, b way) way {
	if a.all {
		return b
	}
	if b.all {
		return a
	}
	both := a.copied()
	for i, set := range b.set {
		both.set[i] = both.set[i] && set
	}
	return both
}

// scope is what is known at the place to which a function has been gone through. The variables are numbered as they
// came, so that those of a Block are the last ones at its end.
type scope struct {
	visible map[string]int // the number of each variable, by its name
	names   []string       // the names, by the numbers
	here    way
	loops   int // Whiles around
}

// leave is a Block's end: only so many variables, the outer ones, are visible any more.
func (s *scope) leave(outer int) {
	for _, name := range s.names[outer:] {
		delete(s.visible, name)
	}
	s.names = s.names[:outer]
	s.here.set = s.here.set[:outer]
}

func (s *scope) declare(n api.Node, set bool) fault {
	if _, there := s.visible[n.Text]; there {
		return wrong(n, api.ErrCheckTwice)
	}
	s.visible[n.Text] = len(s.names)
	s.names = append(s.names, n.Text)
	s.here.set = append(s.here.set, set)
	return fault{}
}

func (s *scope) param(n api.Node) fault { return s.declare(n, true) }

func (s *scope) let(n api.Node) fault { return s.declare(n, len(n.Kids) > 0) }

func (s *scope) assign(n api.Node) fault {
	number, there := s.visible[n.Text]
	if !there {
		return wrong(n, api.ErrCheckName)
	}
	s.here.set[number] = true
	return fault{}
}

func (s *scope) read(n api.Node) fault {
	number, there := s.visible[n.Text]
	if !there {
		return wrong(n, api.ErrCheckName)
	}
	if !s.here.all && !s.here.set[number] {
		return wrong(n, api.ErrCheckUnset)
	}
	return fault{}
}

func (s *scope) inLoop(n api.Node) fault {
	if s.loops == 0 {
		return wrong(n, api.ErrCheckLoop)
	}
	return fault{}
}

// end is where no way leads on.
func (s *scope) end(api.Node) fault {
	s.here.all = true
	return fault{}
}
