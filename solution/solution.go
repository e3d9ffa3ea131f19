// Package solution is what the layers 9 and 13 share: a solution of equations between types, to which equations are added one by one. See shared/doc/09-types.md.
package solution

import (
	"slices"

	"recompile/api"
)

// errorName is the Name of a type that is not known since something is wrong: it agrees with every other one.
const errorName = "error"

// Solution gives types to variables. It points to types where they are, since a type with all that its variables stand for can be much larger than the equations.
type Solution struct {
	types  map[int]*api.Type
	ahead  map[int]*api.Type // where variables lead that lead to others, as far as this was looked up
	latest []int             // the variables that got their types by the present equation
	inside map[int]bool      // the variables within types of the solution, and perhaps some others
	lists  map[list]bool     // lists of types whose variables are all inside
	work   []pair            // what has to agree, too; the last pair is the next one
	agreed map[pair]bool     // what has agreed, or fails later
}

type pair struct{ a, b *api.Type }

// New returns the solution of no equations.
func New() *Solution {
	return &Solution{types: map[int]*api.Type{}, ahead: map[int]*api.Type{}, inside: map[int]bool{}, lists: map[list]bool{}}
}

// List returns the type of each variable, up to the greatest number that has one; a zero type for one without.
func (s *Solution) List() []api.Type {
	length := 0
	for n := range s.types {
		length = max(length, n+1)
	}
	out := make([]api.Type, length)
	same := func(t api.Type) api.Type { return t }
	for n, t := range s.types {
		out[n] = apply(same, *t)
	}
	return out
}

// Add adds an equation, and reports whether its sides agree; if not, the solution stays as it was. The types are kept, and are not to change; a list can be in many of them, and many times in one, without being gone through each time.
func (s *Solution) Add(e api.Equation) bool {
	s.agreed = nil
	s.work = append(s.work[:0], pair{&e.A, &e.B})
	agree := true
	for agree && len(s.work) > 0 {
		last := len(s.work) - 1
		p := s.work[last]
		s.work = s.work[:last]
		agree = s.agree(s.outer(p.a), s.outer(p.b))
	}
	if !agree {
		for _, n := range s.latest {
			delete(s.types, n)
		}
	}
	s.latest = nil
	return agree
}

// Outer applies the solution to the outermost node of a type.
func (s *Solution) Outer(t api.Type) api.Type { return *s.outer(&t) }

func (s *Solution) outer(t *api.Type) *api.Type {
	end := t
	for next := s.next(end); next != nil; next = s.next(end) {
		end = next
	}
	// What the present equation says may not last.
	if len(s.latest) == 0 {
		s.shorten(t, end)
	}
	return end
}

// next returns a type to which a variable leads; nil if there is none.
func (s *Solution) next(t *api.Type) *api.Type {
	n := variable(*t)
	if n < 0 {
		return nil
	}
	if next, ok := s.ahead[n]; ok {
		return next
	}
	return s.types[n]
}

// shorten makes all variables on a way lead to its end: many long ways would else be gone again and again.
func (s *Solution) shorten(t, end *api.Type) {
	for t != end && s.next(t) != end {
		next := s.next(t)
		s.ahead[variable(*t)] = end
		t = next
	}
}

// agree reports whether two types agree as far as their outermost nodes tell; the types within them become work.
func (s *Solution) agree(a, b *api.Type) bool {
	m, n := variable(*a), variable(*b)
	switch {
	case m > n:
		return s.give(m, b)
	case n > m:
		return s.give(n, a)
	case a == b || a.Name == errorName || b.Name == errorName:
		return true
	case a.Name != b.Name || len(a.Args) != len(b.Args):
		return false
	}
	s.within(pair{a, b})
	return true
}

// within makes work of the types within two types, unless it was made before: variables can make the same two types come up very often.
func (s *Solution) within(p pair) {
	if len(p.a.Args) == 0 || s.agreed[p] {
		return
	}
	if s.agreed == nil {
		s.agreed = map[pair]bool{}
	}
	s.agreed[p] = true
	for i := range slices.Backward(p.a.Args) {
		s.work = append(s.work, pair{&p.a.Args[i], &p.b.Args[i]})
	}
}

// give gives a variable its type, and reports whether it does not occur in it.
func (s *Solution) give(n int, t *api.Type) bool {
	eachVariable(t, s.lists, func(m int) bool {
		s.inside[m] = true
		return true
	})
	if s.inside[n] && s.occurs(n, t) {
		return false
	}
	if isNone(*t) {
		return true
	}
	s.types[n] = t
	s.latest = append(s.latest, n)
	s.agreed = nil // A variable that has agreed with the zero type may have got another one.
	return true
}

// occurs reports whether a variable occurs in a type to which the solution is applied.
func (s *Solution) occurs(n int, t *api.Type) bool {
	seen, lists := map[int]bool{}, map[list]bool{}
	left := []*api.Type{t}
	other := func(m int) bool {
		next, ok := s.types[m]
		if ok && !seen[m] {
			seen[m] = true
			left = append(left, next)
		}
		return m != n
	}
	for len(left) > 0 {
		last := len(left) - 1
		t, left = left[last], left[:last]
		if !eachVariable(t, lists, other) {
			return true
		}
	}
	return false
}
