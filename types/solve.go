package types

import (
	"slices"

	"recompile/api"
)

// solver adds equations to a solution. It points to types where they are, since a type with all that its variables stand for can be much larger than the equations.
type solver struct {
	solution map[int]*api.Type
	latest   []int         // the variables that got their types by the present equation
	inside   map[int]bool  // the variables within types of the solution, and perhaps some others
	work     []pair        // what has to agree, too; the last pair is the next one
	agreed   map[pair]bool // what has agreed, or fails later
}

type pair struct{ a, b *api.Type }

// Solve returns the types of variables that solve equations, and the indices of those that were dropped.
func Solve(l []api.Equation) ([]api.Type, []int) {
	s := &solver{solution: map[int]*api.Type{}, inside: map[int]bool{}}
	var dropped []int
	for i := range l {
		if !s.add(&l[i]) {
			dropped = append(dropped, i)
		}
	}
	return s.list(), dropped
}

// list returns the solution as a list.
func (s *solver) list() []api.Type {
	length := 0
	for n := range s.solution {
		length = max(length, n+1)
	}
	out := make([]api.Type, length)
	for n, t := range s.solution {
		out[n] = clone(*t)
	}
	return out
}

// add adds an equation to the solution, and reports whether its sides agree; if not, the solution stays as it was.
func (s *solver) add(e *api.Equation) bool {
	s.latest, s.agreed = nil, nil
	s.work = append(s.work[:0], pair{&e.A, &e.B})
	for len(s.work) > 0 {
		last := len(s.work) - 1
		p := s.work[last]
		s.work = s.work[:last]
		if !s.agree(s.outer(p.a), s.outer(p.b)) {
			for _, n := range s.latest {
				delete(s.solution, n)
			}
			return false
		}
	}
	return true
}

// outer applies the solution to the outermost node of a type.
func (s *solver) outer(t *api.Type) *api.Type {
	for {
		next, ok := s.solution[variable(*t)]
		if !ok {
			return t
		}
		t = next
	}
}

// agree reports whether two types agree as far as their outermost nodes tell; the types within them become work.
func (s *solver) agree(a, b *api.Type) bool {
	m, n := variable(*a), variable(*b)
	switch {
	case m > n:
		return s.give(m, b)
	case n > m:
		return s.give(n, a)
	case a == b || a.Name == errorName || b.Name == errorName:
		return true
	case a.Name != b.Name || len(a.Args) != len(b.Args):
		return false
	}
	s.within(pair{a, b})
	return true
}

// within makes work of the types within two types, unless it was made before: variables can make the same two types come up very often.
func (s *solver) within(p pair) {
	if len(p.a.Args) == 0 || s.agreed[p] {
		return
	}
	if s.agreed == nil {
		s.agreed = map[pair]bool{}
	}
	s.agreed[p] = true
	for i := range slices.Backward(p.a.Args) {
		s.work = append(s.work, pair{&p.a.Args[i], &p.b.Args[i]})
	}
}

// give gives a variable its type, and reports whether it does not occur in it.
func (s *solver) give(n int, t *api.Type) bool {
	if s.occurs(n, t) {
		return false
	}
	if isNone(*t) {
		return true
	}
	s.solution[n] = t
	s.latest = append(s.latest, n)
	eachVariable(*t, func(m int) bool {
		s.inside[m] = true
		return true
	})
	s.agreed = nil // A variable that has agreed with the zero type may have got another one.
	return true
}

// occurs reports whether a variable occurs in a type to which the solution is applied. One that is inside no type of the solution needs no look at them.
func (s *solver) occurs(n int, t *api.Type) bool {
	seen := map[int]bool{}
	left := []*api.Type{t}
	other := func(m int) bool {
		next, ok := s.solution[m]
		if ok && s.inside[n] && !seen[m] {
			seen[m] = true
			left = append(left, next)
		}
		return m != n
	}
	for len(left) > 0 {
		last := len(left) - 1
		t, left = left[last], left[:last]
		if !eachVariable(*t, other) {
			return true
		}
	}
	return false
}
