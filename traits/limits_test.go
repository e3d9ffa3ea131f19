package traits_test

import (
	"slices"
	"strconv"
	"strings"
	"testing"

	"recompile/api"
	"recompile/traits"
	"recompile/types"
)

const levels = 1 << 16

// bottom returns the number of levels of a type of which each node has one of the Args, and the last one.
func bottom(t api.Type) (int, api.Type) {
	n := 1
	for len(t.Args) == 1 {
		n, t = n+1, t.Args[0]
	}
	return n, t
}

func TestDeepTypes(t *testing.T) {
	t.Parallel()
	in := deep(levels-1, of("int"))
	l := headers("T S for $T; T S for L<$T>")
	if i, args, ok := traits.Select(l[1:], in); i != 0 || !ok || len(args) != 1 {
		t.Errorf("Select finds %d, and %d arguments", i, len(args))
	} else if n, x := bottom(args[0]); n != levels-1 || x.Name != "int" {
		t.Errorf("the argument has %d levels, and then %s", n, x.Name)
	}
	l[1].Type = deep(levels-1, ty("$T"))
	checkSelect(t, l[1:], in, 0, "int")
	checkOverlaps(t, l, 1)
	l[0].Type = deep(levels-1, of("bool"))
	checkOverlaps(t, l, 1)
	l[1].Type = deep(levels-1, of("int"))
	checkOverlaps(t, l)
	leads, ok := traits.Leads(headers("T:S S for $T"), supers("S>R"), api.Goal{Trait: "S", Type: in})
	if !ok || len(leads) != 2 || !types.Same(leads[0].Type, in) || !types.Same(leads[1].Type, in) {
		t.Errorf("it leads to %d goals", len(leads))
	}
	text := traits.Goal(api.Goal{Trait: "S", Type: in})
	if want := "S " + strings.Repeat("L<", levels-1) + "int" + strings.Repeat(">", levels-1); text != want {
		t.Errorf("the string of a goal with %d levels has %d bytes", levels, len(text))
	}
	if _, ok := traits.ReadGoal(text); ok {
		t.Errorf("a type of more than MaxNodes nodes is read")
	}
	text = "S " + strings.Repeat("L<", api.MaxNodes-1) + "int" + strings.Repeat(">", api.MaxNodes-1)
	if g, ok := traits.ReadGoal(text); !ok || traits.Goal(g) != text {
		t.Errorf("a type of MaxNodes levels is not read")
	}
}

// Goals that lead through all levels of a type, on each one to others that come together again.
func TestDeepGoals(t *testing.T) {
	t.Parallel()
	in := api.Goal{Trait: "S", Type: deep(levels-1, of("int"))}
	for text, want := range map[string]bool{
		"T:S S for L<$T>; S for int":                                                         true,
		"T:S S for L<$T>; S for bool":                                                        false,
		"T:S T:S S for L<$T>; S for int":                                                     true,
		"T:S T:R S for L<$T>; T:R T:S R for L<$T>; S for int; R for int":                     true,
		"T:S T:R S for L<$T>; T:R T:S R for L<$T>; S for int; R for bool":                    false,
		"T:S S for L<$T>; T:R R for L<$T>; T:Q Q for L<$T>; S for int; R for int; Q for int": true,
	} {
		checkDeep := func(above string, want bool) {
			t.Helper()
			if got := traits.Holds(headers(text), supers(above), in); got != want {
				t.Errorf("with %s and %s that it holds is %t", text, above, got)
			}
		}
		checkDeep("", want)
		checkDeep("Q>R Q>Q", want)
		checkDeep("S>S", false)
		if strings.Contains(text, "Q") {
			checkDeep("S>R S>Q", true)
			checkDeep("S>R S>Q Q>R Q>R", true)
			checkDeep("S>R S>Q Q>R R>S", false)
		}
	}
}

// A type with two Args on each of few levels has many nodes.
func TestGoalsOfManyNodes(t *testing.T) {
	var full func(levels int) api.Type
	full = func(levels int) api.Type {
		if levels == 0 {
			return of("int")
		}
		return ty("P", full(levels-1), full(levels-1))
	}
	in := api.Goal{Trait: "S", Type: full(16)}
	checkHolds(t, headers("T:S U:S S for P<$T,$U>; S for int"), nil, in, true)
	checkHolds(t, headers("T:S U:R S for P<$T,$U>; T:R U:S R for P<$T,$U>; S for int; R for int"), nil, in, true)
	checkHolds(t, headers("T:S S for P<$T,$T>; S for int"), supers("S>S"), in, false)
	if !traits.Holds(headers("T:S S for P<$T,$T>; S for int"), nil, in) {
		t.Errorf("the goal does not hold")
	}
	if _, args, ok := traits.Select(headers("T S for P<$T,$T>"), in.Type); !ok || len(nodes(args[0])) != 1<<16-1 {
		t.Errorf("the argument is another one")
	}
}

// A chain of supertraits is followed, however long it is, and what many of them lead to is looked at once.
func TestManySupers(t *testing.T) {
	t.Parallel()
	n := 100000
	var l []api.Header
	var chain, twice []api.Super
	for i := range n {
		l = append(l, api.Header{Trait: strconv.Itoa(i), Type: ty("$T")})
		if i > 0 {
			chain = append(chain, api.Super{Trait: strconv.Itoa(i - 1), Above: strconv.Itoa(i)})
			twice = append(twice, chain[i-1], api.Super{Trait: strconv.Itoa(i - 1), Above: strconv.Itoa(min(i+1, n-1))})
		}
	}
	in := goal("0 L<int>")
	slices.Reverse(chain)
	for what, c := range map[string]struct {
		l    []api.Header
		s    []api.Super
		want bool
	}{
		"chain":       {l, chain, true},
		"last lacks":  {l[:n-1], chain, false},
		"circle":      {l, append(slices.Clone(chain), api.Super{Trait: strconv.Itoa(n - 1), Above: "5"}), false},
		"twice":       {l, twice, true},
		"other lacks": {l[:n-1], twice, false},
	} {
		if got := traits.Holds(c.l, c.s, in); got != c.want {
			t.Errorf("%s: that it holds is %t", what, got)
		}
	}
	if leads, ok := traits.Leads(l, chain, goal("77777 int")); !ok || showGoals(leads) != showGoals(goals("77778 int")) {
		t.Errorf("it leads to %s", showGoals(leads))
	}
}

func TestWideHeaders(t *testing.T) {
	n := 100000
	h := api.Header{Trait: "S", Type: ty("Q")}
	x := ty("Q")
	for i := range n {
		name := strconv.Itoa(n - i)
		h.Params = append(h.Params, api.Param{Name: name, Bound: "S"})
		h.Type.Args = append(h.Type.Args, ty("$"+strconv.Itoa(i)))
		x.Args = append(x.Args, ty("int"+strconv.Itoa(i)))
	}
	i, args, ok := traits.Select([]api.Header{h}, x)
	if i != 0 || !ok || len(args) != n || args[0].Name != "error" || args[1].Name != "int"+strconv.Itoa(n-1) || args[n-1].Name != "int1" {
		t.Errorf("Select finds %d, and %d arguments", i, len(args))
	}
	all := headers("T S for $T")
	checkHolds(t, append([]api.Header{h}, all...), nil, api.Goal{Trait: "S", Type: x}, true)
	if leads, ok := traits.Leads([]api.Header{h}, nil, api.Goal{Trait: "S", Type: x}); !ok || len(leads) != n || leads[0].Type.Name != "error" || leads[n-1].Type.Name != "int1" {
		t.Errorf("it leads to %d goals", len(leads))
	}
	checkOverlaps(t, []api.Header{h, {Trait: "S", Type: x}, h, {Trait: "R", Type: x}}, 1, 2)
}

func TestManyHeaders(t *testing.T) {
	t.Parallel()
	n := 2000
	var l []api.Header
	x := ty("Q")
	for i := range n {
		name := "p::R" + strconv.Itoa(i)
		l = append(l, api.Header{Trait: "S", Type: ty(name, ty("$T")), Params: []api.Param{{Name: "T", Bound: "S"}}})
		x.Args = append(x.Args, ty(name, ty("error")))
	}
	q := api.Header{Trait: "S", Type: ty("Q")}
	for i := range n {
		q.Type.Args = append(q.Type.Args, ty("$"+strconv.Itoa(i)))
		q.Params = append(q.Params, api.Param{Name: strconv.Itoa(i), Bound: "S"})
	}
	l = append(l, q)
	checkOverlaps(t, l)
	checkOverlaps(t, append(slices.Clone(l), api.Header{Trait: "S", Type: ty("p::R7", ty("int"))}), n+1)
	if !traits.Holds(l, nil, api.Goal{Trait: "S", Type: x}) {
		t.Errorf("the goal does not hold")
	}
}

func TestManyMethods(t *testing.T) {
	n := 100000
	in := tree(api.KImpl, "p::S", 1)
	var l []api.Known
	for i := range n {
		name := strconv.Itoa(i)
		in.Kids = append(in.Kids, function(name+"()int", i))
		l = append(l, api.Known{Def: strconv.Itoa(n - i), Sig: api.Signature{Result: of("int")}})
	}
	checkCheck(t, in, "int", l, "13@1 100000, 13@0 0")
	checkCheck(t, deepTree(), "int", l[:1], "13@0 100000")
}

// deepTree returns an implementation that has many levels of others in it.
func deepTree() api.Tree {
	in := tree(api.KImpl, "p::S", 0)
	for range levels - 1 {
		in = tree(api.KImpl, "p::S", 0, in)
	}
	return in
}
