package types_test

import (
	"testing"

	"recompile/api"
	"recompile/types"
)

func TestApplyAndNodes(t *testing.T) {
	for _, c := range []struct {
		s, t, want string
		nodes      int
	}{
		{"", "_", "_", 1}, {"", "int", "int", 1}, {"", "?0", "?0", 1}, {"", "P<?0,L<?7>>", "P<?0,L<?7>>", 4},
		{"int", "?0", "int", 1}, {"L<int>", "?0", "L<int>", 2}, {"int", "L<?0>", "L<int>", 2}, {"int bool", "P<?1,?0>", "P<bool,int>", 3}, {"int", "P<?0,?1>", "P<int,?1>", 3}, {"L<a>", "P<?0,?0>", "P<L<a>,L<a>>", 5},
		// a variable without a type stays
		{"_", "?0", "?0", 1}, {"_ int", "P<?0,?1>", "P<?0,int>", 3}, {"int _ bool", "P<?0,?1,?2,?3>", "P<int,?1,bool,?3>", 5}, {"_<_>", "?0", "_<_>", 2}, {"_<a>", "L<?0>", "L<_<a>>", 3}, {"int", "?1000000", "?1000000", 1},
		// chains
		{"int ?0", "?1", "int", 1}, {"int ?0 ?1 ?2 ?3", "?4", "int", 1}, {"_ ?0 ?1 ?2", "?3", "?0", 1}, {"a ?0 L<?1> ?2", "?3", "L<a>", 2}, {"_ ?0 L<?1> ?2", "P<?3,?1>", "P<L<?0>,?0>", 4}, {"L<?1> L<?2> L<?3>", "?0", "L<L<L<?3>>>", 4}, {"_ L<?0> L<?1>", "L<?2>", "L<L<L<?0>>>", 4}, {"P<?1,?2> a L<?1>", "?0", "P<a,L<a>>", 4},
		// types that double
		{"a P<?0,?0>", "?1", "P<a,a>", 3}, {"a P<?0,?0> P<?1,?1>", "?2", "P<P<a,a>,P<a,a>>", 7}, {"_ P<?0,?0> P<?1,?1>", "P<?2,?1>", "P<P<P<?0,?0>,P<?0,?0>>,P<?0,?0>>", 11},
		// no variables
		{"int", "?00", "?00", 1}, {"int", "?", "?", 1}, {"int", "?0<a>", "?0<a>", 2}, {"int", "?0<?0>", "?0<int>", 2}, {"int", "$0", "$0", 1}, {"int", "0", "0", 1}, {"?00 int", "?0", "?00", 1}, {"?1<?1> int", "?0", "?1<int>", 2}, {"int", "?1000001", "?1000001", 1}, {"a b", "P<?01,?1>", "P<?01,b>", 3},
		// error is a type like others
		{"error", "L<?0>", "L<error>", 2}, {"error<?1> int", "?0", "error<int>", 2}, {"int", "error<?0>", "error<int>", 2},
	} {
		if got := types.Apply(ofs(c.s), of(c.t)); !equal(got, of(c.want)) {
			t.Errorf("Apply of %q to %s = %s, expected %s", c.s, c.t, show(got), c.want)
		}
		if got := types.Nodes(ofs(c.s), of(c.t)); got != c.nodes {
			t.Errorf("Nodes of %q in %s = %d, expected %d", c.s, c.t, got, c.nodes)
		}
	}
}

// checkSize tests Apply and Nodes for a result with a number of nodes; 0 if that is unknown, but more than MaxWide.
func checkSize(t *testing.T, name string, s []api.Type, x api.Type, count int) {
	t.Helper()
	got, n := types.Apply(s, x), types.Nodes(s, x)
	if count == 0 || count > api.MaxWide {
		if n != api.MaxWide+1 || !equal(got, ty("error")) {
			t.Errorf("%s: %d nodes, Apply = %.100s, expected too many", name, n, show(got))
		}
	} else if n != count || len(nodes(got)) != count {
		t.Errorf("%s: %d nodes, Apply = %.100s, expected %d", name, n, show(got), count)
	}
}

func TestMaxWide(t *testing.T) {
	for n := api.MaxWide - 2; n <= api.MaxWide+3; n++ {
		wide, long := ty("P", repeat(ty("a"), n-1)...), deep(n-1, ty("a"))
		checkSize(t, "wide", nil, wide, n)
		checkSize(t, "deep", nil, long, n)
		checkSize(t, "a variable", []api.Type{wide}, v(0), n)
		checkSize(t, "behind a chain", []api.Type{long, v(0), v(1), v(2)}, v(3), n)
		checkSize(t, "variables without types", nil, ty("P", repeat(v(7), n-1)...), n)
		checkSize(t, "many variables", []api.Type{ty("a"), v(0)}, ty("P", repeat(v(1), n-1)...), n)
		checkSize(t, "the last one is too large", []api.Type{ty("L", ty("a"))}, ty("P", append(repeat(ty("a"), n-3), v(0))...), n)
		checkSize(t, "the first one is too large", []api.Type{deep(n-4, ty("a"))}, ty("P", v(0), ty("b"), ty("c")), n+0)
		checkSize(t, "in the middle", []api.Type{ty("P", repeat(ty("a"), n-51)...)}, deep(50, v(0)), n)
		got := types.Apply([]api.Type{wide}, v(0))
		if want := map[bool]api.Type{true: wide, false: ty("error")}[n <= api.MaxWide]; !equal(got, want) {
			t.Errorf("Apply of a type of %d nodes: %s", n, show(got))
		}
	}
}

// doubling returns a solution in which each variable has two times the one before it.
func doubling(n int) []api.Type {
	s := []api.Type{ty("a")}
	for i := 1; i < n; i++ {
		s = append(s, ty("P", v(i-1), v(i-1)))
	}
	return s
}

func TestTypesThatDouble(t *testing.T) {
	s := doubling(1000)
	for n, want := 0, 1; n < 7; n, want = n+1, 2*want+1 {
		checkSize(t, "doubling", s, v(n), want)
		checkSize(t, "doubling", s, ty("L", v(n)), want+1)
	}
	// 127 and 63 nodes, and nine others
	checkSize(t, "doubling", s, ty("P", v(6), deep(8, v(5))), 199)
	checkSize(t, "doubling", s, ty("P", v(6), deep(9, v(5))), 200)
	checkSize(t, "doubling", s, ty("P", v(6), deep(10, v(5))), 201)
	for _, n := range []int{7, 8, 60, 64, 999} {
		checkSize(t, "doubling", s, v(n), 0)
	}
}

// For solutions that Solve does not return there is some result.
func TestOtherSolutions(t *testing.T) {
	l := ofs("_ a ?0 ?1 ?2 ?3 L<?0> L<?1> P<?0,?0> P<?2,?1> error<?0> ?0<?0>")
	for _, a := range l {
		for _, b := range l {
			for _, c := range l {
				for _, x := range ofs("?0 ?1 P<?2,?0>") {
					s := []api.Type{a, b, c}
					got, n := types.Apply(s, x), types.Nodes(s, x)
					if n < 1 || n > api.MaxWide+1 || len(nodes(got)) > api.MaxWide {
						t.Fatalf("Apply of %s to %s = %s of %d nodes", shows(s), show(x), show(got), n)
					}
				}
			}
		}
	}
	const many = 200000
	ring, tower := make([]api.Type, many), make([]api.Type, many)
	for i := range many {
		ring[i], tower[i] = v((i+1)%many), ty("P", v((i+1)%many), v((i+2)%many))
	}
	for _, s := range [][]api.Type{ring, tower} {
		for _, x := range []api.Type{v(0), v(many - 1), ty("P", repeat(v(7), 300)...), deep(50000, v(9))} {
			if n := types.Nodes(s, x); n < 1 || n > api.MaxWide+1 || len(nodes(types.Apply(s, x))) > api.MaxWide {
				t.Errorf("%d nodes in variables that lead back to themselves", n)
			}
		}
	}
	beyond := make([]api.Type, api.MaxVariable+3)
	beyond[api.MaxVariable], beyond[api.MaxVariable+1] = ty("a"), ty("b")
	for _, c := range []struct{ t, want string }{{"?1000000", "a"}, {"?1000001", "?1000001"}, {"?1000002", "?1000002"}, {"?1000003", "?1000003"}} {
		if got := types.Apply(beyond, of(c.t)); !equal(got, of(c.want)) {
			t.Errorf("Apply of many types to %s: %s", c.t, show(got))
		}
	}
}
