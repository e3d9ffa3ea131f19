package solution_test

import (
	"strconv"
	"testing"

	"recompile/api"
	"recompile/solution"
	"recompile/types"
)

func v(n int) api.Type { return api.Type{Name: "?" + strconv.Itoa(n)} }

// of reads a type.
func of(text string) api.Type {
	t, _ := types.Parse(text)
	return t
}

func eq(a, b string) api.Equation { return api.Equation{A: of(a), B: of(b)} }

// show writes types, with a minus sign for the zero type.
func show(l []api.Type) string {
	s := ""
	for _, t := range l {
		if t.Name == "" {
			t.Name = "-"
		}
		s += types.Print(t) + " "
	}
	return s
}

// dice are numbers that look accidental and are the same in every run.
type dice struct{ state uint64 }

// roll returns a number from 0 to n-1.
func (d *dice) roll(n int) int {
	d.state = d.state*6364136223846793005 + 1442695040888963407
	return int(d.state>>33) % n
}

func (d *dice) typeOf(levels int) api.Type {
	switch n := d.roll(12); {
	case n < 7:
		return v(d.roll(12))
	case n < 8 || levels <= 1:
		return of([]string{"a", "b", "error"}[d.roll(3)])
	case n < 10:
		return api.Type{Name: "L", Args: []api.Type{d.typeOf(levels - 1)}}
	}
	return api.Type{Name: "P", Args: []api.Type{d.typeOf(levels - 1), d.typeOf(levels - 1)}}
}

// Equations that are added one by one, with looks at the solution in between, have the solution that types.Solve finds for all of them.
func TestAddAndOuter(t *testing.T) {
	d := &dice{9}
	dropped := 0
	for range 3000 {
		s := solution.New()
		var l []api.Equation
		for range 1 + d.roll(25) {
			e := api.Equation{A: d.typeOf(3), B: d.typeOf(3)}
			l = append(l, e)
			want, out := types.Solve(l)
			if kept := len(out) == 0 || out[len(out)-1] != len(l)-1; s.Add(e) != kept {
				t.Fatalf("the last one of %v is kept: %t", l, kept)
			} else if !kept {
				dropped++
			}
			for range d.roll(12) {
				x := d.typeOf(2)
				got, wanted := s.Outer(x), solution.Listed(want)(x)
				if got.Name != wanted.Name || len(got.Args) != len(wanted.Args) {
					t.Fatalf("%v: Outer of %s is %s, expected %s", l, types.Print(x), types.Print(got), types.Print(wanted))
				}
				if !types.Same(solution.Apply(s.Outer, x), types.Apply(want, x)) || solution.Nodes(s.Outer, x) != types.Nodes(want, x) {
					t.Fatalf("%v: Apply of %s is %s, expected %s", l, types.Print(x), types.Print(solution.Apply(s.Outer, x)), types.Print(types.Apply(want, x)))
				}
			}
			if show(s.List()) != show(want) {
				t.Fatalf("%v: %s, expected %s", l, show(s.List()), show(want))
			}
		}
	}
	if dropped < 5000 {
		t.Errorf("only %d equations were dropped", dropped)
	}
}

// What a dropped equation says of variables is forgotten, also where others lead to them.
func TestDroppedEquations(t *testing.T) {
	s := solution.New()
	for _, c := range []struct {
		e    api.Equation
		kept bool
		want string
	}{
		{eq("?3", "?2"), true, "- - - ?2 "}, {eq("?2", "?1"), true, "- - ?1 ?2 "}, {eq("P<?3,a,?3>", "P<?0,b,?3>"), false, "- - ?1 ?2 "}, {eq("P<?1,?3,a>", "P<?0,?2,b>"), false, "- - ?1 ?2 "},
		{eq("P<?0,?3,?3>", "P<c,?0,b>"), false, "- - ?1 ?2 "}, {eq("?3", "?1"), true, "- - ?1 ?2 "}, {eq("?0", "a"), true, "a - ?1 ?2 "}, {eq("?3", "b"), true, "a b ?1 ?2 "}, {eq("?3", "?0"), false, "a b ?1 ?2 "},
	} {
		if kept := s.Add(c.e); kept != c.kept || show(s.List()) != c.want {
			t.Errorf("%v is kept: %t, with %s; expected %t, with %s", c.e, kept, show(s.List()), c.kept, c.want)
		}
	}
	for n, want := range []string{"a", "b", "b", "b", "?4"} {
		if got := s.Outer(v(n)); types.Print(got) != want {
			t.Errorf("Outer of ?%d is %s, expected %s", n, types.Print(got), want)
		}
	}
}

// Long ways are not gone again and again, neither to a type nor to a variable without one.
func TestLongWays(t *testing.T) {
	const n = 100000
	s := solution.New()
	for i := n; i > 0; i-- {
		s.Add(api.Equation{A: v(i), B: v(i - 1)})
		if got := s.Outer(v(n)); got.Name != "?"+strconv.Itoa(i-1) {
			t.Fatalf("Outer of ?%d is %s, expected ?%d", n, got.Name, i-1)
		}
	}
	look := func(want string) {
		t.Helper()
		for i := n; i >= 0; i-- {
			if got := s.Outer(v(i)); got.Name != want {
				t.Fatalf("Outer of ?%d is %s, expected %s", i, got.Name, want)
			}
		}
	}
	look("?0")
	s.Add(eq("?0", "a"))
	look("a")
	if l := s.List(); len(l) != n+1 || l[0].Name != "a" || l[n].Name != "?"+strconv.Itoa(n-1) {
		t.Errorf("the list has %d elements, the last one is %s", len(l), l[len(l)-1].Name)
	}
}

func TestIsVariable(t *testing.T) {
	for _, name := range []string{"?0", "?7", "?10", "?999999", "?1000000"} {
		if !solution.IsVariable(api.Type{Name: name}) || solution.IsVariable(api.Type{Name: name, Args: []api.Type{of("a")}}) {
			t.Errorf("%s is no variable", name)
		}
	}
	for _, name := range []string{"", "?", "0", "??0", "?00", "?01", "?-1", "?x", "?0x", "? 0", "?1000001", "?18446744073709551616", "$0", "int"} {
		if solution.IsVariable(api.Type{Name: name}) {
			t.Errorf("%q is a variable", name)
		}
	}
}

// double returns a type of 2^(n+1)-1 nodes, in which each list stands twice.
func double(n int, leaf string) api.Type {
	t := of(leaf)
	for range n {
		t = api.Type{Name: "P", Args: []api.Type{t, t}}
	}
	return t
}

// Types whose lists stand in them many times have solutions like others, also if they could not be written.
func TestListsThatStandOften(t *testing.T) {
	for _, n := range []int{0, 1, 5, 60, 2000} {
		s := solution.New()
		large := func(leaf string) api.Type { return api.Type{Name: "L", Args: []api.Type{double(n, leaf)}} }
		for i, c := range []struct {
			a, b api.Type
			kept bool
		}{
			{v(2), large("?2"), false}, {large("?2"), v(2), false}, {v(2), large("?3"), true}, {v(3), large("?2"), false}, {v(3), api.Type{Name: "L", Args: []api.Type{v(2)}}, false},
			{large("?4"), large("a"), true}, {large("?4"), large("b"), false}, {large("?4"), large("error"), true}, {large("?5"), large("?3"), true}, {v(6), large("?7"), true}, {v(7), large("?8"), true},
			{v(8), api.Type{Name: "L", Args: []api.Type{v(6)}}, false}, {v(3), large("a"), true}, {v(5), large("?4"), true}, {v(5), large("b"), false}, {v(2), api.Type{Name: "L", Args: []api.Type{large("c")}}, false},
		} {
			if s.Add(api.Equation{A: c.a, B: c.b}) != c.kept {
				t.Fatalf("%d levels: the equation %d is kept: %t", n, i, !c.kept)
			}
		}
		nodes := 1 << min(n+1, 9)
		if got := solution.Nodes(s.Outer, v(5)); got != min(nodes, api.MaxWide+1) {
			t.Errorf("%d levels: ?5 has %d nodes", n, got)
		}
		if got := solution.Apply(s.Outer, v(5)); nodes > api.MaxWide && got.Name != "error" || nodes <= api.MaxWide && !types.Same(got, large("a")) {
			t.Errorf("%d levels: ?5 is %s", n, types.Print(got))
		}
		if got := s.Outer(v(8)); got.Name != "?8" {
			t.Errorf("%d levels: ?8 is %s", n, got.Name)
		}
	}
}

// A list that is the beginning of another one is not that one.
func TestListsWithOneBeginning(t *testing.T) {
	l := []api.Type{of("a"), v(0), v(1)}
	s := solution.New()
	for i, want := range []bool{true, true, false, true, false} {
		e := []api.Equation{{A: v(2), B: api.Type{Name: "L", Args: l[:1]}}, {A: v(1), B: api.Type{Name: "P", Args: l[:2]}}, {A: v(1), B: api.Type{Name: "Q", Args: l}}, {A: v(3), B: api.Type{Name: "L", Args: l[1:2]}}, {A: v(0), B: api.Type{Name: "P", Args: l[1:]}}}[i]
		if s.Add(e) != want {
			t.Errorf("the equation %d is kept: %t", i, !want)
		}
	}
	s = solution.New()
	for i, want := range []bool{true, false} {
		if s.Add(api.Equation{A: v(2 - 2*i), B: api.Type{Name: "L", Args: l[:1+i]}}) != want {
			t.Errorf("the equation %d is kept: %t", i, !want)
		}
	}
}

// Types of many levels need no more than memory.
func TestManyLevels(t *testing.T) {
	const n = 300000
	deep := func(leaf string) api.Type {
		t := of(leaf)
		for range n {
			t = api.Type{Name: "L", Args: []api.Type{t}}
		}
		return t
	}
	s := solution.New()
	for i, c := range []struct {
		a, b api.Type
		kept bool
	}{{v(0), deep("?0"), false}, {v(0), deep("?1"), true}, {v(1), api.Type{Name: "L", Args: []api.Type{v(0)}}, false}, {v(0), deep("a"), true}, {v(1), of("b"), false}, {v(1), of("a"), true}} {
		if s.Add(api.Equation{A: c.a, B: c.b}) != c.kept {
			t.Errorf("the equation %d is kept: %t", i, !c.kept)
		}
	}
}
