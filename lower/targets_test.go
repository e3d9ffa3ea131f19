package lower_test

import (
	"strings"
	"testing"

	"recompile/api"
	"recompile/lower"
)

// checkSymbol tests which symbol a KCall with a Text has, whatever is beside it.
func checkSymbol(t *testing.T, text, names string, args []api.Type, targets []api.Equation, want string) {
	t.Helper()
	call := api.Tree{Kind: api.KCall, Text: text}
	in := api.Tree{Kind: api.KConst, Kids: []api.Tree{{}, {Kind: api.KBinary, Text: "+", Kids: []api.Tree{call, call}}}}
	checkTargets(t, in, names, args, targets, "0/3: r0 = call "+want+"(), r1 = call "+want+"(), r2 = r0 + r1, return r2")
}

func TestTargets(t *testing.T) {
	for _, c := range []struct{ text, targets, want string }{
		{"p::f", "p::f = q::g", "q::g"}, {"p::f<int>", "p::f<int> = q::g<bool,p::L<int>>", "q::g<bool,p::L<int>>"}, {"p::f", "p::e = a; p::f = b; p::g = c", "b"}, {"f", "f = g", "g"}, {"p::show<int>", "p::show<int> = p::impl Show for int.show", "p::impl Show for int.show"},
		// without a target of its type
		{"p::f", "", ""}, {"p::f", "p::g = p::f; p::F = a; f = b; p::ff = c", ""}, {"p::f<int>", "p::f = a; p::f<bool> = b; p::f<int,int> = c; p::f<int<int>> = d; p::f<Int> = e; f<int> = g; <int> = h; p::f<p::f<int>> = i", ""}, {"p::f", "p::f<int> = a; _ = b", ""}, {"p::f<$T>", "p::f<T> = a; p::f<int> = b", ""},
		// of several ones, the first one counts
		{"p::f", "p::f = a; p::f = b; p::f = error", "a"}, {"p::f<int>", "p::f = z; p::f<int> = a; p::f<int> = b", "a"}, {"p::f", "p::f = error; p::f = a", ""}, {"p::f", "p::f = p::f; p::f = a", "p::f"},
		// the Name error, with and without Args; other Names that contain it, or Args of this Name
		{"p::f", "p::f = error", ""}, {"p::f", "p::f = error<int>", ""}, {"p::f", "p::f = error<error,p::f>", ""}, {"p::f", "p::f = a<error>", "a<error>"}, {"p::f", "p::f = Error", "Error"}, {"p::f", "p::f = p::error", "p::error"}, {"p::f", "p::f = errors", "errors"}, {"p::f", "p::f = _", ""}, {"p::f", "p::f = _<error>", "<error>"},
		{"error", "error = a", "a"}, {"error<int>", "error<int> = a", "a"}, {"p::f<error>", "p::f<error> = a", "a"}, {"error", "", ""},
		// what is called is not looked for in turn, and what a target is called with does not matter
		{"p::f", "p::f = p::g; p::g = p::h", "p::g"}, {"p::f", "p::f = p::f<int>; p::f<int> = a", "p::f<int>"},
	} {
		checkSymbol(t, c.text, "", nil, equations(c.targets), c.want)
	}
}

// Types are put in the place of parameters before a target is looked for; targets stay as they are.
func TestTargetsOfParameters(t *testing.T) {
	for _, c := range []struct{ text, names, args, targets, want string }{
		{"p::f<$T>", "T", "int", "p::f<int> = a; p::f<$T> = b", "a"}, {"p::f<$T>", "T", "int", "p::f<$T> = b; p::f<int> = a", "a"}, {"p::f<$T>", "T", "int", "p::f<$T> = b", ""}, {"p::f<$T>", "T", "p::L<bool>", "p::f<p::L<bool>> = a", "a"}, {"p::f<int>", "T", "bool", "p::f<int> = p::g<$T>", "p::g<$T>"},
		{"p::f<$T,$U>", "T U", "int bool", "p::f<bool,int> = b; p::f<int,bool> = a", "a"}, {"p::f<$T,$U>", "U T", "int bool", "p::f<int,bool> = b; p::f<bool,int> = a", "a"}, {"p::f<p::L<$T>>", "T", "$T", "p::f<p::L<$T>> = a", "a"}, {"p::f<$T>", "T U", "$U int", "p::f<int> = b; p::f<$U> = a", "a"},
		// names without a type, a type without a name, a name that is there twice
		{"p::f<$T,$U>", "T U", "int", "p::f<int,$U> = a", "a"}, {"p::f<$T>", "", "int", "p::f<$T> = a", "a"}, {"p::f<$T>", "T", "", "p::f<$T> = a", "a"}, {"p::f<$T>", "T T", "int bool", "p::f<bool> = b; p::f<int> = a", "a"}, {"p::f<$T>", "t T", "int bool", "p::f<int> = b; p::f<bool> = a", "a"},
		// the whole type, and what is no parameter
		{"$T", "T", "p::f<int>", "p::f<int> = a; $T = b", "a"}, {"$T<int>", "T", "p::f", "p::f<int> = b; $T<int> = a", "a"}, {"p::f<T>", "T", "int", "p::f<int> = b; p::f<T> = a", "a"},
	} {
		checkSymbol(t, c.text, c.names, typesOf(c.args), equations(c.targets), c.want)
	}
}

// A Text that is not read as a type has no target, whatever targets there are.
func TestTextsThatAreNoTypes(t *testing.T) {
	var targets []api.Equation
	for _, text := range unreadable() {
		targets = append(targets, api.Equation{A: ty(text), B: ty("wrong")}, api.Equation{A: api.Type{}, B: ty("wrong")}, api.Equation{A: ty(strings.Trim(text, "<>,")), B: ty("wrong")})
	}
	for _, text := range unreadable() {
		checkSymbol(t, text, "", nil, targets, "")
		checkSymbol(t, text, "T", typesOf("int"), targets, "")
	}
}

// unreadable are Texts that are no types.
func unreadable() []string {
	return []string{"", "<", ">", ",", "<int>", "p::f<", "p::f>", "p::f<>", "p::f<int", "p::f<int,>", "p::f<,int>", "p::f<int>>", "p::f<int>,", "p::f,p::g", "p::f<int>p::g", "p::f<$T", "p::f<int><int>"}
}

// Types that are not the same can have the same text: only the one that is the same counts.
func TestTargetsWithOneText(t *testing.T) {
	two, one := ty("p::f", ty("int"), ty("bool")), ty("p::f", ty("int,bool"))
	targets := []api.Equation{{A: ty("p::f<int,bool>"), B: ty("name")}, {A: one, B: ty("one")}, {A: two, B: ty("two")}}
	checkSymbol(t, "p::f<int,bool>", "", nil, targets, "two")
	checkSymbol(t, "p::f<$T>", "T", []api.Type{ty("int,bool")}, targets, "one")
	checkSymbol(t, "$T", "T", []api.Type{ty("p::f<int,bool>")}, targets, "name")
	checkSymbol(t, "p::f<$T,$U>", "T U", typesOf("int bool"), targets, "two")
	checkSymbol(t, "p::f<$T,$U>", "T U", typesOf("int bool"), targets[:2], "")
	checkSymbol(t, "p::f<$T>", "T", []api.Type{ty("")}, []api.Equation{{A: ty("p::f"), B: ty("b")}, {A: ty("p::f", ty("")), B: ty("a")}}, "a")
	// the symbol is a text, whatever the type is
	checkSymbol(t, "p::f", "", nil, []api.Equation{{A: ty("p::f"), B: ty("a<b>", ty("c,d"))}}, "a<b><c,d>")
}

// Calls of one definition are called by their own types; a call has the values of its Kids as its list, whatever its target is.
func TestSeveralCalls(t *testing.T) {
	in := of("fn f(params, args(arg x@0), type int, block(let y@1(call p::f<$T>(local x@0)), do(call p::f<int>(call p::f<$T>(local y@1))), do(call p::g), call p::h<$T,int>(int 1, call p::f<int>)))")
	checkTargets(t, in, "T", typesOf("p::L<int>"), equations("p::f<int> = A; p::f<p::L<int>> = B; p::h<p::L<int>,int> = C; p::g = error"),
		"1/11: r1 = r0, r2 = call B(r1), r3 = r2, r4 = r3, r5 = call B(r4), r6 = call A(r5), r7 = call (), r8 = 1, r9 = call A(), r10 = call C(r8 r9), return r10")
	checkTargets(t, in, "T", typesOf("int"), equations("p::f<int> = A; p::f<p::L<int>> = B; p::h<p::L<int>,int> = C; p::g = D"),
		"1/11: r1 = r0, r2 = call A(r1), r3 = r2, r4 = r3, r5 = call A(r4), r6 = call A(r5), r7 = call D(), r8 = 1, r9 = call A(), r10 = call (r8 r9), return r10")
	checkTargets(t, in, "", nil, nil, "1/11: r1 = r0, r2 = call (r1), r3 = r2, r4 = r3, r5 = call (r4), r6 = call (r5), r7 = call (), r8 = 1, r9 = call (), r10 = call (r8 r9), return r10")
}

// Names, args and targets matter for nothing but calls.
func TestTargetsOfOthers(t *testing.T) {
	targets := equations("p::c = a; p::R = b; p::R<int> = c; 1 = d; x = e; $T = f")
	for _, value := range []string{"global p::c", "new p::R<$T>(int 1)", "new p::R", "dot 1(bad x)", "bad $T", "global $T", "local $T", "block(let $T(int 1), local $T)"} {
		in := constant(value)
		if got, want := lower.Body(in, []string{"T"}, typesOf("int"), targets), lower.Body(in, nil, nil, nil); showCode(got) != showCode(want) {
			t.Errorf("%s became %s, without targets %s", value, showCode(got), showCode(want))
		}
	}
}
