package types_test

import (
	"slices"
	"strings"
	"testing"

	"recompile/api"
	"recompile/types"
)

// eq returns an equation.
func eq(a, b api.Type) api.Equation { return api.Equation{A: a, B: b} }

// solved tests that Solve drops just these equations, and returns the solution.
func solved(t *testing.T, name string, l []api.Equation, dropped ...int) []api.Type {
	t.Helper()
	s, d := types.Solve(l)
	if !slices.Equal(d, dropped) {
		t.Errorf("%s: of %d equations %v were dropped, expected %v", name, len(l), d, dropped)
	}
	return s
}

// double returns equations by which each of the variables from, from+2 .. has two times the one before it; bottom is for the first one.
func double(from, n int, bottom ...api.Equation) []api.Equation {
	out := bottom
	for i := range n {
		below := v(from + 2*i)
		out = append(out, eq(v(from+2*i+2), ty("P", below, below)))
	}
	return out
}

// fourfold is like double, but only every second variable has a type, which has four times the one before it.
func fourfold(from, n int, bottom ...api.Equation) []api.Equation {
	out := bottom
	for i := 0; i < n; i += 2 {
		half := ty("P", v(from+2*i), v(from+2*i))
		out = append(out, eq(v(from+2*i+4), ty("P", half, half)))
	}
	return out
}

// Types that double are of more nodes than could be looked at one by one.
func TestSolveOfTypesThatDouble(t *testing.T) {
	const n = 200
	top := v(2 * n)
	l := double(0, n)
	s := solved(t, "doubling", l)
	if len(s) != 2*n+1 || !equal(s[2*n], ty("P", v(2*n-2), v(2*n-2))) || types.Nodes(s, top) != api.MaxWide+1 {
		t.Errorf("doubling: %d elements", len(s))
	}
	solved(t, "the last one occurs in itself", append(l, eq(v(0), ty("L", top))), n)
	solved(t, "the last one is not the first one", append(l, eq(v(0), top)), n)
	s = solved(t, "the last one occurs in another one", append(l, eq(v(1), ty("L", top)), eq(v(0), v(1)), eq(v(3), ty("a")), eq(v(0), v(3)), eq(top, v(1))), n+1, n+4)
	if !equal(s[0], ty("a")) {
		t.Errorf("the first one: %s", show(s[0]))
	}
	s = solved(t, "a variable of another type gets the last one", append(l, eq(v(3), ty("L", v(1))), eq(v(1), ty("L", top)), eq(v(3), top), eq(v(5), v(1)), eq(v(0), v(5))), n+2, n+4)
	if !equal(s[1], ty("L", top)) || !equal(s[5], ty("L", top)) {
		t.Errorf("a variable of another type: %s", shows(s[:6]))
	}
}

func TestSolveOfTwoThatDouble(t *testing.T) {
	const n = 200
	a, b := v(2*n), v(2*n+1)
	for name, second := range map[string][]api.Equation{"double": double(1, n), "fourfold": fourfold(1, n), "later": double(3, n-1), "fourfold later": fourfold(5, n-2, eq(v(3), ty("P", v(1), v(1))), eq(v(5), ty("P", v(3), v(3))))} {
		l := slices.Concat(double(0, n), second)
		if name == "later" {
			l = append(l, eq(v(3), ty("P", v(1), v(1))))
		}
		count := len(l)
		s := solved(t, name, append(l, eq(a, b), eq(b, a)))
		if !equal(s[1], v(0)) || !equal(s[0], api.Type{}) {
			t.Errorf("%s: the first ones: %s", name, shows(s[:2]))
		}
		// with different ends, or one that has another type later
		solved(t, name, append(l, eq(v(0), ty("x")), eq(v(1), ty("y")), eq(a, b), eq(b, a)), count+2, count+3)
		solved(t, name, append(l, eq(v(0), ty("x")), eq(v(1), ty("error")), eq(a, b), eq(b, a)))
		solved(t, name, append(l, eq(v(0), ty("error")), eq(v(1), ty("y")), eq(a, b), eq(b, a)))
		solved(t, name, append(l, eq(a, b), eq(v(0), ty("x")), eq(b, a), eq(v(1), ty("y"))), count+3)
		solved(t, name, append(l, eq(v(0), ty("L", v(1))), eq(a, b)), count+1)
	}
}

// With the zero type at the bottom no variable gets a type.
func TestSolveOfTwoThatDoubleTheZeroType(t *testing.T) {
	const n = 100
	one := ty("P", ty(""), ty(""))
	l := slices.Concat(double(0, n), double(3, n-1, eq(v(3), one)))
	count := len(l)
	a, b := v(2*n), v(2*n+1)
	s := solved(t, "zero", append(l, eq(a, b), eq(b, a)))
	if !equal(s[0], api.Type{}) || !equal(s[3], one) {
		t.Errorf("the first ones: %s", shows(s[:4]))
	}
	solved(t, "zero", append(l, eq(a, b), eq(v(0), ty("x")), eq(a, b), eq(b, a), eq(v(2), ty("P", ty("x"), ty("x")))), count+2, count+3)
	solved(t, "zero", append(l, eq(ty("P", a, v(0), ty("x")), ty("P", b, ty("x"), ty("x")))))
	solved(t, "zero", append(l, eq(ty("P", a, v(0), b), ty("P", b, ty("x"), a))), count)
	// each level has a variable that gets a type on the way
	l = nil
	for i := range n {
		l = append(l, eq(v(4*i+4), ty("P", v(4*i), v(4*i), v(4*i+2))), eq(v(4*i+5), ty("P", v(4*i+1), v(4*i+1), v(4*i+3))))
	}
	s = solved(t, "variables on each level", append(l, eq(v(4*n), v(4*n+1)), eq(v(0), ty("x"))))
	for i := range n {
		if !equal(s[4*i+3], v(4*i+2)) {
			t.Fatalf("the variable %d got %s", 4*i+3, show(s[4*i+3]))
		}
	}
}

// chain returns equations that say that each of n variables is a type of the next one.
func chain(n int, of func(api.Type) api.Type) []api.Equation {
	var out []api.Equation
	for i := range n {
		out = append(out, eq(v(i), of(v(i+1))))
	}
	return out
}

func same(t api.Type) api.Type { return t }

func level(t api.Type) api.Type { return ty("L", t) }

func TestSolveOfLongChains(t *testing.T) {
	const n = 100000
	s := solved(t, "equal ones", append(chain(n, same), eq(v(n), ty("a"))))
	if len(s) != n+1 || !equal(s[0], ty("a")) || !equal(s[n], v(0)) {
		t.Errorf("equal ones: %d elements", len(s))
	}
	back := chain(n, same)
	slices.Reverse(back)
	s = solved(t, "equal ones, from the last one on", append(back, eq(v(n), ty("a")), eq(v(n), ty("b"))), n+1)
	if len(s) != n+1 || !equal(s[0], ty("a")) || !equal(s[n], v(n-1)) || !equal(types.Apply(s, v(n)), ty("a")) || types.Nodes(s, v(n)) != 1 {
		t.Errorf("equal ones, from the last one on: %d elements", len(s))
	}
	levels := chain(n, level)
	s = solved(t, "levels", append(levels, eq(v(n), ty("a")), eq(v(0), ty("L", v(1))), eq(v(0), v(1))), n+2)
	if len(s) != n+1 || !equal(s[0], ty("L", v(1))) || types.Nodes(s, v(0)) != api.MaxWide+1 || types.Nodes(s, v(n-199)) != 200 || types.Nodes(s, v(n-200)) != 201 {
		t.Errorf("levels: %d elements", len(s))
	}
	solved(t, "levels", append(levels, eq(v(n), v(0)), eq(v(n+1), v(0)), eq(v(n), ty("L", v(n+1)))), n, n+2)
	slices.Reverse(levels)
	s = solved(t, "levels, from the last one on", append(levels, eq(v(n), v(0)), eq(v(n+1), v(0))), n)
	if len(s) != n+2 || !equal(s[0], ty("L", v(1))) || !equal(s[n+1], ty("L", v(1))) {
		t.Errorf("levels, from the last one on: %d elements", len(s))
	}
}

func TestDeepTypes(t *testing.T) {
	const n = 60000
	a, b, x := deep(n, ty("a")), deep(n, ty("b")), deep(n, v(0))
	if types.Same(a, b) || !types.Same(a, deep(n, ty("a"))) || types.Size(a) != n+1 {
		t.Error("deep types are the same, or of another size")
	}
	text := types.Print(a)
	if text != strings.Repeat("L<", n)+"a"+strings.Repeat(">", n) {
		t.Error("the text of a deep type is another one")
	}
	if _, ok := types.Parse(text); ok {
		t.Error("a text of too many nodes was read")
	}
	if got := types.Put(deep(n, ty("$T")), []string{"T"}, []api.Type{deep(2, ty("a"))}); types.Size(got) != n+3 || bottom(got).Name != "a" {
		t.Errorf("Put in a deep type: %s", bottom(got).Name)
	}
	names, l, ok := types.Match(deep(n, ty("$T")), a)
	if !ok || !slices.Equal(names, []string{"T"}) || shows(l) != `"a"` {
		t.Errorf("Match of deep types: %q, %s", names, shows(l))
	}
	if _, l, ok = types.Match(ty("P", ty("$T"), ty("$T")), ty("P", a, a)); !ok || !types.Same(l[0], a) {
		t.Error("Match finds no deep type")
	}
	if _, _, ok = types.Match(ty("P", ty("$T"), ty("$T")), ty("P", a, b)); ok {
		t.Error("Match finds a deep type that there is not")
	}
	s := solved(t, "deep", []api.Equation{eq(a, x), eq(x, b), eq(x, a), eq(v(1), x), eq(v(1), a), eq(v(2), deep(n, v(2))), eq(v(3), v(1))}, 1, 5)
	if len(s) != 4 || !equal(s[0], ty("a")) || types.Size(s[3]) != n+1 || bottom(s[1]).Name != "?0" {
		t.Errorf("deep equations: %d elements", len(s))
	}
	if types.Nodes(s, a) != api.MaxWide+1 || !equal(types.Apply(s, x), ty("error")) {
		t.Error("Apply to a deep type is no error")
	}
}

func TestWideTypes(t *testing.T) {
	const n = 100000
	var vars []api.Type
	for i := range n {
		vars = append(vars, v(i))
	}
	s := solved(t, "wide", []api.Equation{eq(ty("P", vars...), ty("P", repeat(ty("a"), n)...)), eq(ty("P", vars...), ty("P", repeat(ty("b"), n)...)), eq(ty("P", vars...), ty("P", vars...))}, 1)
	if len(s) != n || !equal(s[0], ty("a")) || !equal(s[n-1], ty("a")) {
		t.Errorf("wide: %d elements", len(s))
	}
	var l []api.Equation
	for i := range n {
		l = append(l, eq(v(i), ty("a")), eq(v(i), ty("b")))
	}
	s, dropped := types.Solve(l)
	if len(s) != n || len(dropped) != n || dropped[0] != 1 || dropped[n-1] != 2*n-1 {
		t.Errorf("many equations: %d elements, %d dropped", len(s), len(dropped))
	}
	big := ty("P", repeat(ty("a"), n)...)
	if types.Size(big) != n+1 || types.Nodes(nil, big) != api.MaxWide+1 || len(types.Print(big)) != 2*n+2 {
		t.Error("a wide type has another size")
	}
}
