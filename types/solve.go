package types

import (
	"recompile/api"
	"recompile/solution"
)

// Solve returns the types of variables that solve equations, and the indices of those that were dropped.
func Solve(l []api.Equation) ([]api.Type, []int) {
	s := solution.New()
	var dropped []int
	for i, e := range l {
		if !s.Add(e) {
			dropped = append(dropped, i)
		}
	}
	return s.List(), dropped
}

// Apply returns a type after applying a solution, or the type error if that is too large.
func Apply(s []api.Type, t api.Type) api.Type { return solution.Apply(solution.Listed(s), t) }

// Nodes returns the number of nodes that a type has after applying a solution, up to one more than MaxWide.
func Nodes(s []api.Type, t api.Type) int { return solution.Nodes(solution.Listed(s), t) }
