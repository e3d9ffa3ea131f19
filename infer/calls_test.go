package infer_test

import (
	"strings"
	"testing"

	"recompile/api"
	"recompile/infer"
)

// checkIn tests what becomes of a value in a block whose value is not used: the places begin with 4 (the value is that of a KDo in a KBlock).
func checkIn(t *testing.T, value, want, diags, goals string) {
	t.Helper()
	checkBody(t, constant("unit", "block(do("+value+"), unit)"), definitions(), "block(do("+want+"), unit)", diags, goals)
}

func TestGlobals(t *testing.T) {
	for _, c := range []struct{ value, diags string }{
		{"global p::i", ""}, {"global p::e", ""}, {"global p::f", "7@4 p::f"}, {"global p::m", "7@4 p::m"}, {"global p::R", "7@4 p::R"}, {"global p::S", "7@4 p::S"}, {"global p::x", "7@4 p::x"}, {"global p::y", "7@4 p::y"}, {"global p::z", "7@4 p::z"}, {"global p::unknown", "7@4 p::unknown"}, {"global", "7@4"},
		{"global p::f(int 1)", "7@4 p::f"}, {"global p::i(unary -(unit), global p::f)", "9@6, 7@7 p::f"},
		// it has the type error then
		{"unary -(global p::f)", "7@5 p::f"}, {"unary !(global p::f)", "7@5 p::f"}, {"call p::f(global p::f, global p::g)", "7@5 p::f, 7@6 p::g"}, {"dot a(global p::R)", "7@5 p::R"},
	} {
		want := c.value
		if strings.HasPrefix(want, "dot") {
			want = "bad a(global p::R)"
		}
		checkIn(t, c.value, want, c.diags, "")
	}
	if got := infer.Body(constant("int", "global p::i"), nil); showDiags(got.Diags) != "7@2 p::i" || show(got.Tree.Kids[1]) != "global p::i" {
		t.Errorf("a constant that is not known: %s, %s", show(got.Tree), showDiags(got.Diags))
	}
}

// Which definitions can be called, and which can be made; the others become a KBad with the same Text and Kids.
func TestKindsOfDefinitions(t *testing.T) {
	for _, x := range definitions() {
		kids := strings.TrimSuffix(strings.Repeat("bad, ", len(x.Sig.Args)), ", ")
		if kids != "" {
			kids = "(" + kids + ")"
		}
		name := strings.TrimPrefix(x.Def, "p::")
		for word, fits := range map[string]string{"call": "f g two id same any head put m", "new": "R L P N E"} {
			in := word + " " + x.Def + kids
			got := infer.Body(constant("error", in), definitions())
			bad := show(got.Tree.Kids[1]) == "bad "+x.Def+kids && showDiags(got.Diags) == "7@2 "+x.Def
			if bad == strings.Contains(" "+fits+" ", " "+name+" ") {
				t.Errorf("%s became %s, with %s", in, show(got.Tree.Kids[1]), showDiags(got.Diags))
			}
		}
	}
	for _, in := range []string{"call p::unknown", "new p::unknown", "call", "new", "call p::i(int 1)", "new p::f(int 1, bool true)", "call p::R(int 1, bool true)", "new p::S", "call p::x(int 1)", "call int", "new int"} {
		_, rest, _ := strings.Cut(in, " ")
		name, _, _ := strings.Cut(rest, "(")
		want := strings.TrimSpace("bad " + rest)
		checkIn(t, in, want, strings.TrimSpace("7@4 "+name), "")
		checkIn(t, "unary -("+in+")", "unary -("+want+")", strings.TrimSpace("7@5 "+name), "")
		checkIn(t, "unary !("+in+")", "unary !("+want+")", strings.TrimSpace("7@5 "+name), "")
	}
	// of several with one Def the first one counts
	l := known("p::f const = int; p::f fn = int; p::g fn = int; p::g fn = bool; p::g const = bool; p::R none; p::R record = p::R; p::c const = int; p::c const = bool")
	for value, diags := range map[string]string{"call p::f": "7@2 p::f", "call p::g": "", "unary !(call p::g)": "9@3, 9@2", "global p::g": "7@2 p::g", "new p::R": "7@2 p::R", "global p::c": "", "unary !(global p::c)": "9@3, 9@2"} {
		result := "int"
		if strings.HasPrefix(diags, "9@3") {
			result = "unit"
		}
		if got := infer.Body(constant(result, value), l); showDiags(got.Diags) != diags {
			t.Errorf("%s: %s, expected %s", value, showDiags(got.Diags), diags)
		}
	}
}

func TestNumbersOfArguments(t *testing.T) {
	for _, c := range []struct{ value, want, diags string }{
		{"call p::f(int 1)", "bad p::f(int 1)", "8@4 p::f"}, {"call p::f", "bad p::f", "8@4 p::f"}, {"call p::f(int 1, bool true, int 3)", "bad p::f(int 1, bool true, int 3)", "8@4 p::f"}, {"call p::g(unit)", "bad p::g(unit)", "8@4 p::g"}, {"call p::g", "call p::g", ""},
		{"new p::R", "bad p::R", "8@4 p::R"}, {"new p::R(int 1)", "bad p::R(int 1)", "8@4 p::R"}, {"new p::R(int 1, bool true, bool true)", "bad p::R(int 1, bool true, bool true)", "8@4 p::R"}, {"new p::N(int 1)", "bad p::N(int 1)", "8@4 p::N"}, {"new p::N", "new p::N", ""},
		{"call p::id", "bad p::id", "8@4 p::id"}, {"call p::id(int 1, int 2)", "bad p::id(int 1, int 2)", "8@4 p::id"}, {"call p::put(int 1)", "bad p::put(int 1)", "8@4 p::put"}, {"call p::any(int 1)", "bad p::any(int 1)", "8@4 p::any"}, {"call p::m(int 1)", "bad p::m(int 1)", "8@4 p::m"},
		// nothing is said of the Kids, but they are visited, and the type is error
		{"call p::f(unit)", "bad p::f(unit)", "8@4 p::f"}, {"call p::f(unary -(unit))", "bad p::f(unary -(unit))", "9@6, 8@4 p::f"}, {"call p::f(call p::g(unit))", "bad p::f(bad p::g(unit))", "8@5 p::g, 8@4 p::f"}, {"call p::f(call p::any)", "bad p::f(call p::any<error>)", "8@4 p::f, 11@5 p::any"},
		{"call p::f(call p::id(int 1))", "bad p::f(call p::id<int>(int 1))", "8@4 p::f"}, {"unary !(call p::f)", "unary !(bad p::f)", "8@5 p::f"}, {"unary -(call p::f)", "unary -(bad p::f)", "8@5 p::f"}, {"dot a(new p::R)", "bad a(bad p::R)", "8@5 p::R"},
		{"call p::z(call p::unknown(global p::f))", "bad p::z(bad p::unknown(global p::f))", "7@6 p::f, 7@5 p::unknown, 7@4 p::z"},
	} {
		checkIn(t, c.value, c.want, c.diags, "")
	}
}

// Each equation of a KCall and a KNew, kept and dropped. One that was dropped leaves the node what it is.
func TestArgumentsOfCalls(t *testing.T) {
	for _, c := range []struct{ result, value, diags string }{
		{"int", "call p::f(int 1, bool true)", ""}, {"int", "call p::f(bool true, bool true)", "9@3"}, {"int", "call p::f(int 1, int 2)", "9@4"}, {"int", "call p::f(unit, unit)", "9@3, 9@4"}, {"bool", "call p::f(unit, unit)", "9@3, 9@4, 9@2"}, {"bool", "call p::f(int 1, bool true)", "9@2"},
		{"int", "call p::f(bad, bad)", ""}, {"bool", "call p::f(bad, unit)", "9@4, 9@2"}, {"unit", "call p::g", ""}, {"int", "call p::g", "9@2"}, {"bool", "call p::two(global p::r, global p::r)", ""}, {"bool", "call p::two(global p::l, global p::r)", "9@3"}, {"bool", "call p::two(int 1, int 1)", "9@3, 9@4"},
		{"p::R", "new p::R(int 1, bool true)", ""}, {"p::R", "new p::R(bool true, bool true)", "9@3"}, {"p::R", "new p::R(int 1, int 1)", "9@4"}, {"p::N", "new p::R(unit, unit)", "9@3, 9@4, 9@2"}, {"p::N", "new p::N", ""}, {"p::R", "new p::N", "9@2"},
		{"int", "call p::f(call p::f(unit, bool true), unary !(unit))", "9@4, 9@7"},
	} {
		checkValue(t, c.result, c.value, c.value, c.diags)
	}
	for _, c := range []struct{ result, value, want, diags, goals string }{
		{"int", "call p::same(int 1, bool true)", "call p::same<int>(int 1, bool true)", "9@4", ""}, {"bool", "call p::same(int 1, bool true)", "call p::same<int>(int 1, bool true)", "9@4, 9@2", ""},
		{"int", "call p::head(global p::r)", "call p::head<int>(global p::r)", "9@3", ""}, {"int", "call p::head(int 1)", "call p::head<int>(int 1)", "9@3", ""},
		{"p::P<int,bool>", "call p::put(bool true, int 1)", "call p::put<bool,int>(bool true, int 1)", "9@6", "p::S bool@4"}, {"p::P<int,bool>", "call p::put(int 1, global p::l)", "call p::put<int,int>(int 1, global p::l)", "9@4", "p::S int@4"},
		{"int", "call p::m(bool true, bool true)", "call p::m<bool>(bool true, bool true)", "9@4, 9@2", "p::S bool@2"}, {"p::L<int>", "new p::L(bool true, global p::l)", "new p::L<bool>(bool true, global p::l)", "9@5, 9@3", ""},
	} {
		checkBody(t, constant(c.result, c.value), definitions(), c.want, c.diags, c.goals)
	}
}

func TestParams(t *testing.T) {
	for _, c := range []struct{ value, want, goals string }{
		{"call p::id(int 1)", "call p::id<int>(int 1)", ""}, {"call p::id(bad)", "call p::id<error>(bad)", ""}, {"call p::id(unit)", "call p::id<unit>(unit)", ""}, {"call p::id(global p::l)", "call p::id<p::L<int>>(global p::l)", ""},
		// each has its own variables
		{"call p::id(call p::id(int 1))", "call p::id<int>(call p::id<int>(int 1))", ""}, {"block(call p::id(int 1), call p::id(bool true))", "block(call p::id<int>(int 1), call p::id<bool>(bool true))", ""}, {"call p::id(block(do(call p::id(int 1)), unit))", "call p::id<unit>(block(do(call p::id<int>(int 1)), unit))", ""},
		{"call p::same(call p::any, int 1)", "call p::same<int>(call p::any<int>, int 1)", ""}, {"call p::same(call p::id(call p::any), bool true)", "call p::same<bool>(call p::id<bool>(call p::any<bool>), bool true)", ""}, {"unary -(call p::head(call p::any))", "unary -(call p::head<int>(call p::any<p::L<int>>))", ""},
		{"call p::same(call p::any, call p::same(call p::any, global p::r))", "call p::same<p::R>(call p::any<p::R>, call p::same<p::R>(call p::any<p::R>, global p::r))", ""},
		// several, with goals for those that have a bound
		{"call p::put(bool true, global p::l)", "call p::put<bool,int>(bool true, global p::l)", "p::S bool@4"}, {"call p::m(unit, int 1)", "call p::m<unit>(unit, int 1)", "p::S unit@4"}, {"new p::L(int 1, global p::l)", "new p::L<int>(int 1, global p::l)", ""},
		{"new p::P(bool true, unit, new p::L(bool true, call p::any))", "new p::P<bool,unit>(bool true, unit, new p::L<bool>(bool true, call p::any<p::L<bool>>))", "p::Q unit@4"},
		{"call p::put(call p::m(int 1, int 2), new p::L(new p::P(bad, unit, call p::any), call p::any))", "call p::put<int,p::P<error,unit>>(call p::m<int>(int 1, int 2), new p::L<p::P<error,unit>>(new p::P<error,unit>(bad, unit, call p::any<p::L<error>>), call p::any<p::L<p::P<error,unit>>>))", "p::S int@5, p::Q unit@9, p::S int@4"},
	} {
		checkIn(t, c.value, c.want, "", c.goals)
	}
}

// Signatures whose Params have one name, an empty one, or one that stands in no type.
func TestOtherParams(t *testing.T) {
	l := known("p::twice fn T:p::A T:p::B U | $T = $U; p::empty fn _:p::A | $ = $; p::unused fn T U:p::A | int = int; p::args fn T | $T<int> $U = int; p::not fn T | T ?T = T")
	for _, c := range []struct{ result, value, want, diags, goals string }{
		{"bool", "call p::twice(int 1)", "call p::twice<int,error,bool>(int 1)", "11@2 p::twice", "p::A int@2, p::B error@2"},
		{"int", "call p::empty(int 1)", "call p::empty<int>(int 1)", "", "p::A int@2"},
		{"int", "call p::unused(int 1)", "call p::unused<error,error>(int 1)", "11@2 p::unused", "p::A error@2"},
		// a parameter with Args, and one that is none of the Params, stay
		{"int", "call p::args(bad, bad)", "call p::args<error>(bad, bad)", "11@2 p::args", ""}, {"int", "call p::args(int 1, bool true)", "call p::args<error>(int 1, bool true)", "9@3, 9@4, 11@2 p::args", ""}, {"int", "call p::not(unit, bad)", "call p::not<error>(unit, bad)", "9@3, 9@2, 11@2 p::not", ""},
	} {
		checkBody(t, constant(c.result, c.value), l, c.want, c.diags, c.goals)
	}
	// the parameters of the definition itself have nothing to do with those of what it calls
	in := function("T U", "x@0:$T", "p::P<$U,$T>", "call p::put(local x@0, call p::any)")
	checkBody(t, in, definitions(), "call p::put<$T,$U>(local x@0, call p::any<p::L<$U>>)", "", "p::S $@10")
}

// Types with Names that are not plain, or look like variables.
func TestOtherNames(t *testing.T) {
	l := []api.Known{
		{Def: "a<b", Sig: api.Signature{Kind: api.SigFn, Params: []api.Param{{Name: "T"}}, Args: []api.Type{ty("$T")}, Result: ty("x,y")}},
		{Def: "?2", Sig: api.Signature{Kind: api.SigFn, Result: ty("int")}},
		{Def: "error", Sig: api.Signature{Kind: api.SigFn, Params: []api.Param{{Name: "T"}}, Args: []api.Type{ty("$T")}, Result: ty("$T")}},
		{Def: "z", Sig: api.Signature{Kind: api.SigFn, Params: []api.Param{{Name: "T"}}, Args: []api.Type{ty("$T")}, Result: ty("")}},
		{Def: "zero", Sig: api.Signature{Kind: api.SigConst}},
		{Def: "x", Sig: api.Signature{Kind: api.SigConst, Result: ty("?x")}},
	}
	for _, c := range []struct {
		value       api.Tree
		want, diags string
	}{
		{api.Tree{Kind: api.KCall, Text: "a<b", Kids: []api.Tree{of("int 1")}}, "call a<b<int>(int 1)", "9@0"}, {of("call ?2"), "call ?2", ""}, {of("call error(bad)"), "call error<error>(bad)", ""}, {of("call error(int 1)"), "call error<int>(int 1)", ""},
		{of("call error(global zero)"), "call error<int>(global zero)", ""}, {of("call z(global zero)"), "call z<error>(global zero)", "11@0 z"}, {of("call z(global x)"), "call z<?x>(global x)", ""}, {of("call error(global x)"), "call error<?x>(global x)", "9@0"},
	} {
		in := api.Tree{Kind: api.KConst, Text: "k", Kids: []api.Tree{of("type int"), c.value}}
		checkBody(t, in, l, c.want, c.diags, "")
	}
}
