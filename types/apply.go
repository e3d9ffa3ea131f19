package types

import "recompile/api"

// counter counts the nodes of a type to which a solution is applied, up to one more than MaxWide.
type counter struct {
	outer func(api.Type) api.Type // applies the solution to the outermost node
	nodes int
}

// Nodes returns the number of nodes that a type has after applying a solution, up to one more than MaxWide.
func Nodes(s []api.Type, t api.Type) int {
	c := counter{outer: outermost(s)}
	c.count(t)
	return c.nodes
}

func (c *counter) count(t api.Type) {
	c.nodes++
	for _, k := range c.outer(t).Args {
		if c.nodes > api.MaxWide {
			return
		}
		c.count(k)
	}
}

// outermost returns a function that applies a solution to the outermost node of a type. In a list that Solve does not return variables can lead back to themselves: then it ends after as many steps as there are elements.
func outermost(s []api.Type) func(api.Type) api.Type {
	return func(t api.Type) api.Type {
		for range len(s) {
			n := variable(t)
			if n < 0 || n >= len(s) || isNone(s[n]) {
				break
			}
			t = s[n]
		}
		return t
	}
}

// Apply returns a type after applying a solution, or the type error if that is too large.
func Apply(s []api.Type, t api.Type) api.Type {
	if Nodes(s, t) > api.MaxWide {
		return api.Type{Name: errorName}
	}
	return apply(outermost(s), t)
}

func apply(outer func(api.Type) api.Type, t api.Type) api.Type {
	t = outer(t)
	return api.Type{Name: t.Name, Args: each(t.Args, func(k api.Type) api.Type { return apply(outer, k) })}
}
