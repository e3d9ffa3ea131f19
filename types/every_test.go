package types_test

import (
	"maps"
	"slices"
	"strconv"
	"strings"
	"testing"

	"recompile/api"
	"recompile/types"
)

// known are types of variables, found by their Names.
type known map[string]api.Type

func (k known) has(n string) bool { _, ok := k[n]; return ok }

// isVariable says in another way what a variable is.
func isVariable(t api.Type) bool {
	n, err := strconv.Atoi(strings.TrimPrefix(t.Name, "?"))
	return err == nil && t.Name == "?"+strconv.Itoa(n) && n >= 0 && n <= api.MaxVariable && len(t.Args) == 0
}

// head applies types to the outermost node of a type.
func (k known) head(t api.Type) api.Type {
	for isVariable(t) && k.has(t.Name) {
		t = k[t.Name]
	}
	return t
}

// full applies types to all of a type, however large it becomes.
func (k known) full(t api.Type) api.Type {
	t = k.head(t)
	var l []api.Type
	for _, x := range t.Args {
		l = append(l, k.full(x))
	}
	return ty(t.Name, l...)
}

// with returns types with one more; nil if the variable occurs in its type.
func (k known) with(v, t api.Type) known {
	if slices.ContainsFunc(nodes(k.full(t)), func(n api.Type) bool { return isVariable(n) && n.Name == v.Name }) {
		return nil
	}
	out := maps.Clone(k)
	if !equal(t, api.Type{}) {
		out[v.Name] = t
	}
	return out
}

// agree says in another way how two types agree: it returns the types of variables with which they do; nil if there are none.
func (k known) agree(a, b api.Type) known {
	a, b = k.head(a), k.head(b)
	inA, inB := isVariable(a), isVariable(b)
	switch {
	case inA && inB:
		if len(a.Name) < len(b.Name) || len(a.Name) == len(b.Name) && a.Name < b.Name {
			a, b = b, a
		}
		if a.Name == b.Name {
			return k
		}
		return k.with(a, b)
	case inA:
		return k.with(a, b)
	case inB:
		return k.with(b, a)
	case a.Name == "error" || b.Name == "error":
		return k
	case a.Name != b.Name || len(a.Args) != len(b.Args):
		return nil
	}
	for i := range a.Args {
		if k = k.agree(a.Args[i], b.Args[i]); k == nil {
			return nil
		}
	}
	return k
}

// solve says in another way what Solve returns.
func solve(l []api.Equation) (known, []int) {
	k := known{}
	var dropped []int
	for i, e := range l {
		if next := k.agree(e.A, e.B); next != nil {
			k = next
		} else {
			dropped = append(dropped, i)
		}
	}
	return k, dropped
}

// list returns types as Solve lists them.
func (k known) list() []api.Type {
	var out []api.Type
	for name, x := range k {
		n, _ := strconv.Atoi(name[1:])
		for len(out) <= n {
			out = append(out, api.Type{})
		}
		out[n] = x
	}
	return out
}

// hasName reports whether a type has a node with a Name.
func hasName(t api.Type, name string) bool { return slices.Contains(names(t), name) }

// compareSolve tests what Solve returns, and what follows from it.
func compareSolve(t *testing.T, l []api.Equation) {
	t.Helper()
	s, dropped := types.Solve(l)
	k, wantDropped := solve(l)
	if want := k.list(); shows(s) != shows(want) || !slices.Equal(dropped, wantDropped) {
		t.Fatalf("Solve of %s: %s, dropped %v\nwanted: %s, dropped %v", showEquations(l), shows(s), dropped, shows(want), wantDropped)
	}
	zero := strings.Contains(showEquations(l), `""`)
	for i, e := range l {
		for _, side := range []api.Type{e.A, e.B} {
			compareApply(t, s, k, side)
		}
		a, b := types.Apply(s, e.A), types.Apply(s, e.B)
		if !slices.Contains(dropped, i) && !zero && !hasName(a, "error") && !hasName(b, "error") && !equal(a, b) {
			t.Fatalf("%s: the sides of the equation %d are %s and %s", showEquations(l), i, show(a), show(b))
		}
	}
}

// compareApply tests what Apply and Nodes return.
func compareApply(t *testing.T, s []api.Type, k known, x api.Type) {
	t.Helper()
	want := k.full(x)
	count := len(nodes(want))
	if count > api.MaxWide {
		want, count = ty("error"), api.MaxWide+1
	}
	if got := types.Apply(s, x); !equal(got, want) {
		t.Fatalf("Apply of %s to %s: %s, expected %s", shows(s), show(x), show(got), show(want))
	}
	if got := types.Nodes(s, x); got != count {
		t.Fatalf("Nodes of %s in %s: %d, expected %d", shows(s), show(x), got, count)
	}
}

// pairs returns all equations of two of some types.
func pairs(l []api.Type) []api.Equation {
	var out []api.Equation
	for _, a := range l {
		for _, b := range l {
			out = append(out, api.Equation{A: a, B: b})
		}
	}
	return out
}

func TestEveryTwoEquations(t *testing.T) {
	t.Parallel()
	l := pairs(ofs("?0 ?1 ?2 a _ error L<?0> L<?1> L<a> error<?0> P<?0,?1> P<?1,?0> P<?2,?2> P<a,?1> P<?0,L<?1>> P<L<?0>,b>"))
	for _, a := range l {
		compareSolve(t, []api.Equation{a})
		for _, b := range l {
			compareSolve(t, []api.Equation{a, b})
		}
	}
}

func TestEveryThreeEquations(t *testing.T) {
	t.Parallel()
	l := pairs(ofs("?0 ?1 ?2 a L<?0> P<?1,?2>"))
	for _, a := range l {
		for _, b := range l {
			for _, c := range l {
				compareSolve(t, []api.Equation{a, b, c})
			}
		}
	}
}

func TestGeneratedEquations(t *testing.T) {
	t.Parallel()
	d := &dice{41}
	for n := range 30000 {
		leaves := []string{"?0", "?1", "?2", "?3", "?4", "?5"}
		if n%2 == 0 {
			leaves = append(leaves, "a", "?10", "?11", "?12", "?20")
		}
		if n%3 == 0 {
			leaves = append(leaves, "error", "", "b")
		}
		var l []api.Equation
		for range 1 + d.roll(10) {
			l = append(l, api.Equation{A: d.typeOf(1+d.roll(4), leaves...), B: d.typeOf(1+d.roll(4), leaves...)})
		}
		compareSolve(t, l)
	}
}

// Equations between the sides of others, where much agrees already.
func TestEquationsThatComeAgain(t *testing.T) {
	t.Parallel()
	d := &dice{43}
	for range 10000 {
		leaves := []string{"?0", "?1", "?2", "?3", "?4", "?5", "?6", "?7", "a", ""}[:8+d.roll(3)]
		var sides []api.Type
		for range 4 {
			sides = append(sides, d.typeOf(2+d.roll(2), leaves...))
		}
		var l []api.Equation
		for range 2 + d.roll(12) {
			a, b := sides[d.roll(len(sides))], sides[d.roll(len(sides))]
			if d.roll(3) == 0 {
				a = ty("P", a, v(d.roll(8)))
				b = ty("P", b, sides[d.roll(len(sides))])
			}
			l = append(l, api.Equation{A: a, B: b})
		}
		compareSolve(t, l)
	}
}
