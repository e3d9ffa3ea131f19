package types_test

import (
	"slices"
	"strconv"
	"strings"
	"sync"
	"testing"

	"recompile/api"
	"recompile/types"
)

// roomy returns a list with an element behind it, which an append to the list would write over.
func roomy[T any](l []T, behind T) []T {
	return append(append(make([]T, 0, len(l)+4), l...), behind)[:len(l)]
}

// spoil writes over a list and all that it has room for.
func spoil[T any](l []T, over T) {
	l = l[:cap(l)]
	for i := range l {
		l[i] = over
	}
}

// roomyType returns a type whose Args have room behind them, with a type there.
func roomyType(t api.Type) api.Type {
	return ty(t.Name, roomyTypes(t.Args)...)
}

func roomyTypes(l []api.Type) []api.Type {
	var out []api.Type
	for _, k := range l {
		out = append(out, roomyType(k))
	}
	return roomy(out, ty("behind"))
}

// isBehind reports whether there is still the type behind all Args.
func isBehind(l []api.Type) bool {
	behind := l[:len(l)+1][len(l)]
	return behind.Name == "behind" && !slices.ContainsFunc(l, func(t api.Type) bool { return !isBehind(t.Args) })
}

// spoilTypes changes all that types have, and what their lists have room for.
func spoilTypes(l []api.Type) {
	for _, t := range l {
		spoilTypes(t.Args)
	}
	spoil(l, ty("spoilt"))
}

// call is a call of a function with two lists of types, which returns types, and tells something about the rest.
type call struct {
	name string
	of   func(a, b []api.Type) ([]api.Type, string)
}

// listed returns equations between two lists.
func listed(a, b []api.Type) []api.Equation {
	var out []api.Equation
	for i := range min(len(a), len(b)) {
		out = append(out, eq(a[i], b[i]))
	}
	return out
}

func calls() []call {
	return []call{
		{"Same", func(a, b []api.Type) ([]api.Type, string) { return nil, strconv.FormatBool(types.Same(a[0], b[0])) }},
		{"Size", func(a, b []api.Type) ([]api.Type, string) { return nil, strconv.Itoa(types.Size(a[0])) }},
		{"Print", func(a, b []api.Type) ([]api.Type, string) { return nil, types.Print(ty("P", a...)) }},
		{"Put", func(a, b []api.Type) ([]api.Type, string) {
			return []api.Type{types.Put(ty("P", a...), []string{"T", "U", "T"}, b)}, ""
		}},
		{"Match", func(a, b []api.Type) ([]api.Type, string) {
			names, l, ok := types.Match(a[0], b[0])
			return l, strings.Join(names, ",") + strconv.FormatBool(ok)
		}},
		{"Solve", func(a, b []api.Type) ([]api.Type, string) {
			s, dropped := types.Solve(listed(a, b))
			return s, strconv.Itoa(len(dropped))
		}},
		{"Apply", func(a, b []api.Type) ([]api.Type, string) { return []api.Type{types.Apply(a, b[0])}, "" }},
		{"Nodes", func(a, b []api.Type) ([]api.Type, string) { return nil, strconv.Itoa(types.Nodes(a, b[0])) }},
	}
}

// arguments are pairs of lists of types.
func arguments() [][2][]api.Type {
	out := [][2][]api.Type{
		{ofs("P<$T,$U,$T>"), ofs("P<L<a>,b,L<a>>")}, {ofs("$T $U"), ofs("L<a> L<b>")}, {ofs("L<?1> ?0 a"), ofs("?0 ?1 P<?0,?0,?1>")}, {ofs("P<?0,?1,?2> L<?1>"), ofs("P<?3,L<?3>,L<?3>> L<L<b>>")},
		{ofs("L<a> ?0 ?1"), ofs("?0 ?2 ?1")}, {ofs("L<a> P<?0,?0>"), ofs("P<?1,?1,?0>")}, {ofs("_"), ofs("_")}, {ofs("P<?0,a>"), ofs("P<L<b>,c>")}, {ofs("L<L<L<a>>> ?0 ?0"), ofs("?0 L<?1> ?2")},
	}
	d := &dice{53}
	for range 300 {
		var a, b []api.Type
		for range 1 + d.roll(5) {
			a = append(a, d.typeOf(4, "a", "?0", "?1", "?2", "$T", "$U"))
			b = append(b, d.typeOf(4, "a", "?0", "?1", "?2", "?3", "error"))
		}
		out = append(out, [2][]api.Type{a, b})
	}
	return out
}

func TestResultsShareNothing(t *testing.T) {
	for _, c := range calls() {
		for _, pair := range arguments() {
			a, b := roomyTypes(pair[0]), roomyTypes(pair[1])
			check := func(after string) {
				t.Helper()
				if shows(a) != shows(pair[0]) || shows(b) != shows(pair[1]) || !isBehind(a) || !isBehind(b) {
					t.Fatalf("%s of %s and %s: after %s the arguments are others", c.name, shows(pair[0]), shows(pair[1]), after)
				}
			}
			got, rest := c.of(a, b)
			text := shows(got)
			check("the call")
			other, _ := c.of(a, b)
			for i, x := range other {
				behind := shows(other[i+1:])
				spoilTypes(x.Args)
				if shows(other[i+1:]) != behind {
					t.Fatalf("%s of %s and %s: the parts of the result share memory", c.name, shows(a), shows(b))
				}
			}
			spoilTypes(other)
			check("a change of the result")
			spoilTypes(a)
			spoilTypes(b)
			if shows(got) != text {
				t.Fatalf("%s of %s and %s: the result shares memory with another one, or with the arguments", c.name, shows(pair[0]), shows(pair[1]))
			}
			if again, restAgain := c.of(pair[0], pair[1]); shows(again) != text || rest != restAgain {
				t.Fatalf("%s of %s and %s: another result", c.name, shows(pair[0]), shows(pair[1]))
			}
		}
	}
}

// The lists within one type share nothing.
func TestThePartsOfATypeShareNothing(t *testing.T) {
	x := of("P<?0,?0,$T,$T,L<?0>,L<$T>>")
	s, names := ofs("L<L<a>>"), []string{"T"}
	parsed, _ := types.Parse("P<L<a>,L<b<c>>,M<d>>")
	for _, got := range []api.Type{types.Put(x, names, s), types.Apply(s, x), parsed} {
		for i, k := range got.Args {
			behind := shows(got.Args[i+1:])
			spoilTypes(k.Args)
			if shows(got.Args[i+1:]) != behind {
				t.Fatalf("the parts of %s share memory", show(got))
			}
		}
	}
}

// What is given does not change, also the names, and a result that is as large as an argument is new, too.
func TestNamesStay(t *testing.T) {
	names := roomy([]string{"T", "U"}, "behind")
	types.Put(of("P<$T,$U>"), names, ofs("a b"))
	if !slices.Equal(names[:3], []string{"T", "U", "behind"}) {
		t.Errorf("the names became %q", names[:3])
	}
	found, _, _ := types.Match(of("P<$T,$U>"), of("P<a,b>"))
	spoil(found, "spoilt")
	if again, _, _ := types.Match(of("P<$T,$U>"), of("P<a,b>")); !slices.Equal(again, []string{"T", "U"}) {
		t.Errorf("the names are %q after a change of others", again)
	}
	_, dropped := types.Solve(equations("a=b b=c"))
	spoil(dropped, 7)
	if _, again := types.Solve(equations("a=b b=c")); !slices.Equal(again, []int{0, 1}) {
		t.Errorf("the indices are %v after a change of others", again)
	}
}

// A list whose parts share memory is taken as it is.
func TestListsThatShareMemory(t *testing.T) {
	l := ofs("?0 ?1 a")
	x, y := api.Type{Name: "P", Args: l[:2]}, api.Type{Name: "P", Args: l[1:]}
	checkSolve(t, []api.Equation{eq(x, y)}, "0=a 1=?0", "")
	checkSolve(t, []api.Equation{eq(x, x), eq(y, x), eq(api.Type{Name: "P", Args: l}, api.Type{Name: "Q", Args: l}), eq(api.Type{Name: "P", Args: l[:1]}, x)}, "0=a 1=?0", "2 3")
	if shows(l) != shows(ofs("?0 ?1 a")) {
		t.Errorf("the list became %s", shows(l))
	}
}

// No state is kept: a call returns the same after others, and beside others.
func TestCallsDoNotDependOnOthers(t *testing.T) {
	l := arguments()
	for _, c := range calls() {
		want := make([]string, len(l))
		for i, pair := range l {
			got, rest := c.of(pair[0], pair[1])
			want[i] = shows(got) + rest
		}
		var wait sync.WaitGroup
		for w := range 4 {
			wait.Go(func() {
				for n := range l {
					i := (n*7 + w*31) % len(l)
					if got, rest := c.of(l[i][0], l[i][1]); shows(got)+rest != want[i] {
						t.Errorf("%s after other calls: %s", c.name, shows(got))
						return
					}
				}
			})
		}
		wait.Wait()
	}
}
