package solution

import "recompile/api"

// Look applies a solution to the outermost node of a type.
type Look func(api.Type) api.Type

// Listed returns a function that looks up variables in a list that List returns. In another list variables can lead back to themselves: then it ends after as many steps as there are elements.
func Listed(s []api.Type) Look {
	return func(t api.Type) api.Type {
		for range len(s) {
			n := variable(t)
			if n < 0 || n >= len(s) || isNone(s[n]) {
				break
			}
			t = s[n]
		}
		return t
	}
}

// counter counts the nodes of a type to which a solution is applied, up to one more than MaxWide.
type counter struct {
	outer Look
	nodes int
}

// Nodes returns the number of nodes that a type has after applying a solution, up to one more than MaxWide.
func Nodes(outer Look, t api.Type) int {
	c := counter{outer: outer}
	c.count(t)
	return c.nodes
}

func (c *counter) count(t api.Type) {
	c.nodes++
	for _, k := range c.outer(t).Args {
		if c.nodes > api.MaxWide {
			return
		}
		c.count(k)
	}
}

// Apply returns a type after applying a solution, or the type error if that is too large.
func Apply(outer Look, t api.Type) api.Type {
	if Nodes(outer, t) > api.MaxWide {
		return api.Type{Name: errorName}
	}
	return apply(outer, t)
}

func apply(outer Look, t api.Type) api.Type {
	t = outer(t)
	out := api.Type{Name: t.Name}
	for _, k := range t.Args {
		out.Args = append(out.Args, apply(outer, k))
	}
	return out
}
