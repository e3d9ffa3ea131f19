package traits_test

import (
	"slices"
	"strings"
	"testing"

	"recompile/api"
	"recompile/traits"
	"recompile/types"
)

// apart returns the headers that do not overlap with an earlier one.
func apart(l []api.Header) []api.Header {
	overlapping := traits.Overlaps(l)
	var out []api.Header
	for i, h := range l {
		if !slices.Contains(overlapping, i) {
			out = append(out, h)
		}
	}
	return out
}

// shuffled returns the elements of a list in another order.
func shuffled[T any](d *dice, l []T) []T {
	out := slices.Clone(l)
	for i := range out {
		k := d.roll(i + 1)
		out[i], out[k] = out[k], out[i]
	}
	return out
}

// world is a generated program, with a goal in it.
type world struct {
	headers []api.Header
	supers  []api.Super
	goal    api.Goal
}

// world returns a program in which many goals hold.
func (d *dice) world() world {
	bound := func() string { return d.pick("S", "R", "Q", "", "", "") }
	var l []api.Header
	for _, name := range []string{"S", "R", "Q", "S", "R", "Q"} {
		for _, x := range []string{"int", "bool", "L<$T>", "P<$T,$U>", "P<$U,$U>", "L<int>", "P<int,$T>", "$T"} {
			if d.roll(3) > 0 {
				l = append(l, api.Header{Trait: name, Type: of(x), Params: []api.Param{{Name: "T", Bound: bound()}, {Name: "U", Bound: bound()}}})
			}
		}
	}
	s := d.supers(3, "S", "R", "Q")
	if d.roll(2) == 0 {
		s = supers(d.pick("S>R", "S>R S>Q R>Q", "Q>S R>Q", ""))
	}
	return world{l, s, api.Goal{Trait: d.pick("S", "R", "Q"), Type: d.typeOf(4, "int", "bool", "int", "$S", "error")}}
}

// The order of headers that do not overlap does not matter.
func TestOrderDoesNotMatter(t *testing.T) {
	t.Parallel()
	d := &dice{121}
	count := map[bool]int{}
	for range 10000 {
		w := d.world()
		l := apart(shuffled(d, w.headers))
		other := shuffled(d, l)
		if got := traits.Overlaps(other); len(got) > 0 {
			t.Fatalf("%s overlap in this order: %v", showHeaders(other), got)
		}
		holds := traits.Holds(l, w.supers, w.goal)
		if traits.Holds(other, w.supers, w.goal) != holds {
			t.Fatalf("%s with %v and %s: not %t in the order %s", showGoals([]api.Goal{w.goal}), w.supers, showHeaders(l), holds, showHeaders(other))
		}
		if traits.Holds(l, shuffled(d, w.supers), w.goal) != holds {
			t.Fatalf("%s with %v and %s: the order of the supertraits matters", showGoals([]api.Goal{w.goal}), w.supers, showHeaders(l))
		}
		leads, stands := traits.Leads(l, w.supers, w.goal)
		if got, ok := traits.Leads(other, w.supers, w.goal); ok != stands || showGoals(got) != showGoals(leads) {
			t.Fatalf("%s with %v and %s: it leads to others in another order", showGoals([]api.Goal{w.goal}), w.supers, showHeaders(l))
		}
		count[holds]++
	}
	if count[true] < 1000 || count[false] < 1000 {
		t.Errorf("%d goals hold, %d do not", count[true], count[false])
	}
}

// With more headers after the others, or fewer supertraits, a goal that holds still holds.
func TestWhatHoldsStillHolds(t *testing.T) {
	t.Parallel()
	d := &dice{122}
	count, more := 0, 0
	for range 20000 {
		w := d.world()
		n := d.roll(len(w.headers) + 1)
		var fewer []api.Super
		for _, x := range w.supers {
			if d.roll(2) == 0 {
				fewer = append(fewer, x)
			}
		}
		before, after := traits.Holds(w.headers[:n], w.supers, w.goal), traits.Holds(w.headers, w.supers, w.goal)
		without := traits.Holds(w.headers, fewer, w.goal)
		if before && !after || after && !without {
			t.Fatalf("%s with %v and %s: with %d headers %t, with all %t, with %v %t", showGoals([]api.Goal{w.goal}), w.supers, showHeaders(w.headers), n, before, after, fewer, without)
		}
		if before {
			count++
		}
		if !before && after || !after && without {
			more++
		}
	}
	if count < 1000 || more < 1000 {
		t.Errorf("%d goals held before, %d more hold after", count, more)
	}
}

// A goal holds exactly if it stands and all to which it leads hold.
func TestHoldsAndLeads(t *testing.T) {
	d := &dice{123}
	for range 10000 {
		w := d.world()
		leads, want := traits.Leads(w.headers, w.supers, w.goal)
		for _, g := range leads {
			want = traits.Holds(w.headers, w.supers, g) && want
		}
		if got := traits.Holds(w.headers, w.supers, w.goal); got != want {
			t.Fatalf("%s with %v and %s: it holds is %t, but it leads to %s", showGoals([]api.Goal{w.goal}), w.supers, showHeaders(w.headers), got, showGoals(leads))
		}
	}
}

// Two headers overlap exactly if there is a type that both match.
func TestOverlapsAndMatches(t *testing.T) {
	patterns, l := small(4, "$T", "$U", "a"), small(9, "a")
	matches := func(p, x api.Type) bool {
		_, _, ok := traits.Select([]api.Header{{Type: p}}, x)
		return ok
	}
	matched := map[string][]bool{}
	for _, p := range patterns {
		for _, x := range l {
			matched[show(p)] = append(matched[show(p)], matches(p, x))
		}
	}
	for _, a := range patterns {
		for _, b := range patterns {
			both := false
			for i, yes := range matched[show(a)] {
				both = both || yes && matched[show(b)][i]
			}
			if got := traits.Overlaps([]api.Header{{Type: a}, {Type: b}}); (len(got) > 0) != both {
				t.Fatalf("%s and %s overlap: %v, but that a type matches both is %t", show(a), show(b), got, both)
			}
		}
	}
}

// The arguments for all parameters of a header make the type of its own.
func TestArgumentsMakeTheType(t *testing.T) {
	d := &dice{124}
	count := 0
	for range 20000 {
		h := d.header("S")
		names := []string{"X"}
		for _, name := range parameters(h.Type, nil) {
			names = append(names, name)
		}
		h.Params = nil
		for _, name := range names {
			h.Params = append(h.Params, api.Param{Name: name})
		}
		x := d.typeOf(4, "int", "bool", "$T", "error")
		_, args, ok := traits.Select([]api.Header{h}, x)
		if !ok {
			continue
		}
		if made := types.Put(h.Type, names, args); !equal(made, x) || !equal(args[0], ty("error")) {
			t.Fatalf("%s for %s: %s", showHeaders([]api.Header{h}), show(x), shows(args))
		}
		count++
	}
	if count < 1000 {
		t.Errorf("only %d types were made", count)
	}
}

// Goals whose Traits have no blank, and whose types have plain Names, can be read from their strings.
func TestReadGoalOfGoal(t *testing.T) {
	d := &dice{125}
	seen := map[string]string{}
	for range 10000 {
		g := api.Goal{Trait: d.pick("S", "p::S", "<", ",", "\xff", "$", "p::S<int>"), Type: d.typeOf(1+d.roll(5), "int", "$S", "p::L", "a b", " ", "?0", "\xff")}
		s := traits.Goal(g)
		got, ok := traits.ReadGoal(s)
		if text := showGoals([]api.Goal{g}); !ok || showGoals([]api.Goal{got}) != text || seen[s] != "" && seen[s] != text {
			t.Fatalf("%s is read as %s, %t", text, showGoals([]api.Goal{got}), ok)
		}
		seen[s] = showGoals([]api.Goal{g})
		if _, ok := traits.ReadGoal(strings.Replace(s, " ", "", 1)); ok && !strings.Contains(s[strings.Index(s, " ")+1:], " ") {
			t.Fatalf("%q is read without a blank", s)
		}
	}
}
