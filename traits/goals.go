package traits

import (
	"slices"
	"sort"
	"strings"

	"recompile/api"
	"recompile/types"
)

// goal is a goal whose type is where it stands in the type that was asked for. No type stands within itself, so a goal that leads back to itself comes to the same place.
type goal struct {
	trait string
	t     *api.Type
}

// rules say to which goals others lead.
type rules struct {
	headers func(trait string) []api.Header
	supers  func(trait string) []api.Super
}

func newRules(l []api.Header, s []api.Super) rules {
	return rules{
		headers: byTrait(l, func(h api.Header) string { return h.Trait }),
		supers:  byTrait(s, func(x api.Super) string { return x.Trait }),
	}
}

// byTrait returns a function that returns the elements of a list with a trait, in their order.
func byTrait[T any](l []T, trait func(T) string) func(string) []T {
	sorted := make([]T, len(l))
	copy(sorted, l)
	slices.SortStableFunc(sorted, func(a, b T) int { return strings.Compare(trait(a), trait(b)) })
	return func(name string) []T {
		begin := sort.Search(len(sorted), func(i int) bool { return trait(sorted[i]) >= name })
		end := sort.Search(len(sorted), func(i int) bool { return trait(sorted[i]) > name })
		return sorted[begin:end]
	}
}

// Leads returns the goals to which a goal leads, and whether it stands.
func Leads(l []api.Header, s []api.Super, g api.Goal) ([]api.Goal, bool) {
	goals, stands := newRules(l, s).leads(goal{g.Trait, &g.Type})
	var out []api.Goal
	for _, x := range goals {
		out = append(out, api.Goal{Trait: x.trait, Type: clone(*x.t)})
	}
	return out, stands
}

func (r rules) leads(g goal) ([]goal, bool) {
	if strings.HasPrefix(g.t.Name, "$") {
		return nil, g.t.Name == "$"+g.trait
	}
	if g.t.Name == errorName {
		return nil, true
	}
	headers := r.headers(g.trait)
	i, args := first(headers, g.t)
	if i < 0 {
		return nil, false
	}
	var out []goal
	for k, p := range headers[i].Params {
		if p.Bound != "" {
			out = append(out, goal{p.Bound, args[k]})
		}
	}
	for _, x := range r.supers(g.trait) {
		out = append(out, goal{x.Above, g.t})
	}
	return out, true
}

// step is a goal that is being looked at, with those to which it leads that were not looked at.
type step struct {
	goal goal
	left []goal
}

// Holds reports whether a goal stands, with all to which it leads, and none of them leads back to itself.
func Holds(l []api.Header, s []api.Super, g api.Goal) bool {
	r := newRules(l, s)
	holds := map[goal]bool{} // false for those that are being looked at
	var path []step          // Each goal leads to the next one. Calls within calls could become too many.
	look := func(g goal) bool {
		if yes, seen := holds[g]; seen {
			return yes
		}
		holds[g] = false
		left, stands := r.leads(g)
		path = append(path, step{g, left})
		return stands
	}
	ok := look(goal{g.Trait, &g.Type})
	for ok && len(path) > 0 {
		last := &path[len(path)-1]
		if len(last.left) == 0 {
			holds[last.goal] = true
			path = path[:len(path)-1]
			continue
		}
		next := last.left[0]
		last.left = last.left[1:]
		ok = look(next)
	}
	return ok
}

// Goal returns the string of a goal.
func Goal(g api.Goal) string { return g.Trait + " " + types.Print(g.Type) }

// ReadGoal returns the goal with a string, and whether there is one.
func ReadGoal(s string) (api.Goal, bool) {
	trait, rest, _ := strings.Cut(s, " ")
	t, ok := types.Parse(rest)
	if !ok || trait == "" {
		return api.Goal{}, false
	}
	return api.Goal{Trait: trait, Type: t}, true
}
