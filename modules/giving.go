package modules

import (
	"cmp"
	"maps"
	"recompile/api"
	"slices"
	"strings"
)

// giving is what a module gives, as far as it is known: the binds of its own names, and those that it has taken from others.
type giving struct {
	own   map[string]bool
	binds map[api.Bind]bool
}

// begin returns what a module gives by itself.
func begin(module string, names []string) giving {
	g := giving{own: map[string]bool{}, binds: map[api.Bind]bool{}}
	for _, name := range names {
		if !strings.HasPrefix(name, impl) {
			g.own[name] = true
			g.binds[api.Bind{Name: name, Def: module + "::" + name}] = true
		}
	}
	return g
}

// take adds a bind of another module, unless an own name hides it, and reports whether it is new.
func (g giving) take(b api.Bind) bool {
	if g.own[b.Name] || g.binds[b] {
		return false
	}
	g.binds[b] = true
	return true
}

// list returns the binds in their order.
func (g giving) list() []api.Bind {
	return slices.SortedFunc(maps.Keys(g.binds), func(a, b api.Bind) int {
		return cmp.Or(strings.Compare(a.Name, b.Name), strings.Compare(a.Def, b.Def))
	})
}

// takers returns, for each face, the faces that re-export it. Of several faces with one Module only the first one is re-exported.
func takers(l []api.Face) [][]int {
	first := map[string]int{}
	for i, f := range l {
		if _, ok := first[f.Module]; !ok {
			first[f.Module] = i
		}
	}
	out := make([][]int, len(l))
	for i, f := range l {
		for _, module := range ascending(f.Pub) {
			if from, ok := first[module]; ok {
				out[from] = append(out[from], i)
			}
		}
	}
	return out
}

// offer is a bind that a face gives, and which those that re-export it have not got yet.
type offer struct {
	face int
	bind api.Bind
}

// spread lets all faces take what those give that they re-export. As each bind goes on from a face only once, cycles come to an end, and nothing is given that no face has of its own.
func spread(all []giving, takers [][]int) {
	var open []offer
	for i, g := range all {
		for b := range g.binds {
			open = append(open, offer{i, b})
		}
	}
	for len(open) > 0 {
		o := open[len(open)-1]
		open = open[:len(open)-1]
		for _, i := range takers[o.face] {
			if all[i].take(o.bind) {
				open = append(open, offer{i, o.bind})
			}
		}
	}
}
