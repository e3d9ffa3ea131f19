package infer_test

import (
	"slices"
	"strconv"
	"strings"
	"testing"

	"recompile/api"
	"recompile/infer"
)

// Variables without a type at the end are the type error in the Texts of calls and new records, besides the diagnostics of these.
func TestOpenTypes(t *testing.T) {
	for _, c := range []struct{ value, want, diags, goals string }{
		{"call p::any", "call p::any<error>", "11@4 p::any", ""}, {"new p::E", "new p::E<error>", "11@4 p::E", ""}, {"call p::id(call p::any)", "call p::id<error>(call p::any<error>)", "11@4 p::id, 11@5 p::any", ""}, {"call p::id(new p::E)", "call p::id<p::E<error>>(new p::E<error>)", "11@4 p::id, 11@5 p::E", ""},
		{"block(let x@0(call p::any), let y@1(local x@0), unit)", "block(let x@0(call p::any<error>), let y@1(local x@0), unit)", "11@6 p::any", ""},
		// one of several
		{"call p::put(int 1, call p::any)", "call p::put<int,error>(int 1, call p::any<p::L<error>>)", "11@4 p::put, 11@6 p::any", "p::S int@4"}, {"call p::put(call p::any, global p::l)", "call p::put<error,int>(call p::any<error>, global p::l)", "11@4 p::put, 11@5 p::any", "p::S error@4"},
		{"new p::P(int 1, call p::any, call p::any)", "new p::P<int,error>(int 1, call p::any<error>, call p::any<p::L<int>>)", "11@4 p::P, 11@6 p::any", "p::Q error@4"}, {"new p::P(new p::E, bool true, call p::any)", "new p::P<p::E<error>,bool>(new p::E<error>, bool true, call p::any<p::L<p::E<error>>>)", "11@4 p::P, 11@5 p::E, 11@7 p::any", "p::Q bool@4"},
		// deep in a type
		{"new p::P(int 1, new p::L(new p::E, call p::any), call p::any)", "new p::P<int,p::L<p::E<error>>>(int 1, new p::L<p::E<error>>(new p::E<error>, call p::any<p::L<p::E<error>>>), call p::any<p::L<int>>)", "11@4 p::P, 11@6 p::L, 11@7 p::E, 11@8 p::any", "p::Q p::L<p::E<error>>@4"},
		// the type error gives no type to what it meets
		{"call p::head(bad)", "call p::head<error>(bad)", "11@4 p::head", ""}, {"call p::id(call p::head(bad))", "call p::id<error>(call p::head<error>(bad))", "11@4 p::id, 11@5 p::head", ""}, {"call p::id(bad)", "call p::id<error>(bad)", "", ""},
		{"block(let x@0(new p::E), call p::same(local x@0, bad))", "block(let x@0(new p::E<error>), call p::same<p::E<error>>(local x@0, bad))", "11@6 p::E, 11@7 p::same", ""},
		// what is known in the end is known everywhere
		{"block(let x@0(call p::any), print(local x@0), unit)", "block(let x@0(call p::any<int>), print(local x@0), unit)", "", ""}, {"block(let x@0(new p::E), let y@1(local x@0), call p::same(local y@1, new p::E))", "block(let x@0(new p::E<error>), let y@1(local x@0), call p::same<p::E<error>>(local y@1, new p::E<error>))", "11@6 p::E, 11@9 p::same, 11@11 p::E", ""},
	} {
		checkIn(t, c.value, c.want, c.diags, c.goals)
	}
}

// CodeOpen of the variables without a type comes after all others, in the order of the nodes; others are in the order in which nodes are visited, with the result of the definition at their end.
func TestTheOrderOfDiagnostics(t *testing.T) {
	for _, c := range []struct{ value, visited, open string }{
		{"call p::z(call p::z(call p::z))", "7@6 p::z, 7@5 p::z, 7@4 p::z", ""}, {"binary +(unary -(unit), unary -(unit))", "9@6, 9@8", ""}, {"binary +(unit, unary -(unit))", "9@7, 9@5", ""}, {"binary +(unary !(unit), unit)", "9@6, 9@5, 9@7", ""}, {"block(unary -(unit), block(unary -(unit)), call p::z, unary -(unit))", "9@6, 9@9, 7@10 p::z, 9@12", ""},
		{"call p::f(unit, call p::z(unit))", "7@6 p::z, 9@5", ""}, {"call p::f(call p::g(unit), call p::z)", "8@5 p::g, 7@7 p::z", ""}, {"if(unary -(unit), unary -(unit), unary !(unit))", "9@6, 9@8, 9@10, 9@5, 9@9", ""},
		{"call p::id(call p::id(call p::any))", "", "11@4 p::id, 11@5 p::id, 11@6 p::any"}, {"block(call p::any, call p::id(call p::any), call p::any)", "", "11@5 p::any, 11@6 p::id, 11@7 p::any, 11@8 p::any"},
		{"block(call p::any, dot a(call p::any), unary -(unit), call p::z(call p::any))", "11@6 a, 9@9, 7@10 p::z", "11@5 p::any, 11@7 p::any, 11@11 p::any"}, {"dot a(dot b(call p::any))", "11@5 b", "11@6 p::any"}, {"unary -(new p::P(unit, call p::any, unary -(unit)))", "9@9, 9@8, 9@5", "11@5 p::P, 11@7 p::any"},
	} {
		in := constant("unit", "block(do("+c.value+"), unit)")
		if got, want := showDiags(infer.Body(in, definitions()).Diags), joined(c.visited, c.open); got != want {
			t.Errorf("%s: %s, expected %s", c.value, got, want)
		}
		in.Kids[0].Text = "int"
		if got, want := showDiags(infer.Body(in, definitions()).Diags), joined(c.visited, "9@2", c.open); got != want {
			t.Errorf("%s in a definition with another result: %s, expected %s", c.value, got, want)
		}
	}
}

// joined joins the texts that are not empty.
func joined(l ...string) string {
	return strings.Join(slices.DeleteFunc(l, func(s string) bool { return s == "" }), ", ")
}

// The places in diagnostics and of goals are the Ats of the nodes, whatever these are.
func TestPlaces(t *testing.T) {
	in := constant("int", "block(do(call p::put(unary -(unit), call p::any)), do(call p::z), do(dot a(unit)), do(call p::any), bool true)")
	change(&in, func(n *api.Tree) { n.At = 100 - n.At*10 })
	got := infer.Body(in, definitions())
	if want := "9@40, 7@10 p::z, 10@-10 a, 9@80, 11@60 p::put, 11@30 p::any, 11@-40 p::any"; showDiags(got.Diags) != want || showGoals(got) != "p::S int@60" {
		t.Errorf("%s, %s, expected %s", showDiags(got.Diags), showGoals(got), want)
	}
	change(&in, func(n *api.Tree) { n.At = 7 })
	if want := "9@7, 7@7 p::z, 10@7 a, 9@7, 11@7 p::put, 11@7 p::any, 11@7 p::any"; showDiags(infer.Body(in, definitions()).Diags) != want {
		t.Errorf("all at one place: %s, expected %s", showDiags(infer.Body(in, definitions()).Diags), want)
	}
}

func TestGoals(t *testing.T) {
	l := known("p::a fn T:p::A | $T = $T; p::ab fn T:p::A U X:p::B | $T $U $X = p::W<$T,$U,$X>; p::w fn T:p::A | p::W<$T,$T,$T> = $T; p::any fn T = $T; p::anya fn T:p::A = $T; p::m method Self:p::M | $Self = $Self; p::G record T:p::A U:p::A | a:$T b:$U = p::G<$T,$U>; p::none fn T U:p::B | int = int; p::err const = error")
	for _, c := range []struct{ value, goals, diags string }{
		// in the order in which they come about: Kids before their node, and the Params in order
		{"call p::ab(int 1, bool true, unit)", "p::A int@4, p::B unit@4", ""}, {"call p::a(call p::m(int 1))", "p::M int@5, p::A int@4", ""}, {"new p::G(call p::a(int 1), call p::m(bool true))", "p::A int@5, p::M bool@7, p::A int@4, p::A bool@4", ""}, {"block(call p::a(int 1), call p::a(int 1), call p::a(bool true))", "p::A int@5, p::A int@7, p::A bool@9", ""},
		// after applying the whole solution
		{"block(let x@-1(call p::anya), call p::a(local x@-1), unary !(local x@-1))", "p::A bool@6, p::A bool@7", ""}, {"call p::w(call p::ab(call p::any, bool true, call p::any))", "p::A bool@5, p::B bool@5, p::A bool@4", ""},
		// with error in the place of variables
		{"call p::anya", "p::A error@4", "11@4 p::anya"}, {"call p::a(call p::ab(int 1, call p::any, bool true))", "p::A int@5, p::B bool@5, p::A p::W<int,error,bool>@4", "11@4 p::a, 11@5 p::ab, 11@7 p::any"}, {"call p::a(global p::err)", "p::A error@4", ""}, {"call p::a(bad)", "p::A error@4", ""}, {"call p::w(bad)", "p::A error@4", "11@4 p::w"}, {"call p::none(int 1)", "p::B error@4", "11@4 p::none"},
		// a node that is a KBad from the beginning gives none
		{"call p::a", "", "8@4 p::a"}, {"new p::a(int 1)", "", "7@4 p::a"}, {"call p::G(int 1, int 2)", "", "7@4 p::G"}, {"new p::G(int 1)", "", "8@4 p::G"}, {"call p::a(call p::a)", "p::A error@4", "8@5 p::a"},
		// a dropped equation changes nothing
		{"call p::w(int 1)", "p::A error@4", "9@5, 11@4 p::w"}, {"unary -(call p::a(bool true))", "p::A bool@5", "9@5"},
	} {
		got := infer.Body(constant("unit", "block(do("+c.value+"), unit)"), l)
		if showGoals(got) != c.goals || showDiags(got.Diags) != c.diags {
			t.Errorf("%s: goals %s, with %s; expected %s, with %s", c.value, showGoals(got), showDiags(got.Diags), c.goals, c.diags)
		}
	}
}

// The parameters of the definition itself stand in goals with their bounds.
func TestGoalsOfOwnParameters(t *testing.T) {
	l := known("p::a fn T:p::A | $T = $T; p::b fn T U:p::B | $U = $T; p::k const = $Z; p::w const = p::W<$T,$U<$T>>")
	for _, c := range []struct{ params, args, body, want, goals string }{
		{"T:p::A", "x@0:$T", "call p::a(local x@0)", "call p::a<$T>(local x@0)", "p::A $p::A@8"}, {"T:p::B", "x@0:$T", "call p::a(local x@0)", "call p::a<$T>(local x@0)", "p::A $p::B@8"}, {"T", "x@0:$T", "call p::a(local x@0)", "call p::a<$T>(local x@0)", "p::A $@7"},
		{"T U:p::Q", "x@0:p::P<$T,p::L<$U>>", "call p::a(local x@0)", "call p::a<p::P<$T,p::L<$U>>>(local x@0)", "p::A p::P<$,p::L<$p::Q>>@12"},
		// only those of its own Params, without Args
		{"T", "x@0:$T", "call p::a(global p::k)", "call p::a<$Z>(global p::k)", "p::A $Z@7"}, {"T:p::A U:p::B", "x@0:$T", "call p::a(global p::w)", "call p::a<p::W<$T,$U<$T>>>(global p::w)", "p::A p::W<$p::A,$U<$p::A>>@10"}, {"", "x@0:$T", "call p::a(local x@0)", "call p::a<$T>(local x@0)", "p::A $T@5"},
		// the first one with a name
		{"T:p::A T:p::B", "x@0:$T", "call p::a(local x@0)", "call p::a<$T>(local x@0)", "p::A $p::A@10"}, {"T T:p::B", "x@0:$T", "call p::a(local x@0)", "call p::a<$T>(local x@0)", "p::A $@9"},
		// a bound that is the name of another parameter is not replaced again
		{"T:U U:T", "x@0:p::P<$T,$U>", "call p::a(local x@0)", "call p::a<p::P<$T,$U>>(local x@0)", "p::A p::P<$U,$T>@12"},
	} {
		in := function(c.params, c.args, "error", c.body)
		number := in.Kids[3].At
		checkBody(t, in, l, c.want, "", c.goals[:strings.Index(c.goals, "@")]+"@"+strconv.Itoa(number))
	}
	// a KConst has none, whatever its Kids are
	in := of("const k(params(param T(name p::A)), type error, call p::a(global p::w))")
	checkBody(t, in, l, "call p::a<p::W<$T,$U<$T>>>(global p::w)", "", "p::A p::W<$T,$U<$T>>@5")
}

// wide returns a record of n parameters, and a constant of a type of n nodes.
func wide(n int) []api.Known {
	args := strings.Repeat(",int", n-1)
	if n > 1 {
		args = "<" + args[1:] + ">"
	}
	return known("p::w const = p::W" + args)
}

// alone returns the text of a type of n nodes, as it stands by itself.
func alone(text string, n int) string {
	if n > api.MaxWide {
		return "error"
	}
	return text
}

func TestMaxWide(t *testing.T) {
	for n := api.MaxWide - 4; n <= api.MaxWide+3; n++ {
		l := append(definitions(), wide(n)...)
		text := showType(l[len(l)-1].Sig.Result)
		// the nodes of the Def, and those of the type of its parameter, which by itself is error if it has more
		want, diags := "call p::id<"+alone(text, n)+">(global p::w)", ""
		if n+1 > api.MaxWide {
			diags = "11@4 p::id"
		}
		checkBody(t, constant("unit", "block(do(call p::id(global p::w)), unit)"), l, "block(do("+want+"), unit)", diags, "")
		// of several parameters
		want, diags = "call p::put<int,"+alone(text, n)+">(int 1, call p::any<"+alone("p::L<"+text+">", n+1)+">)", ""
		if n+2 > api.MaxWide {
			diags = "11@4 p::put, 11@6 p::any"
		}
		checkBody(t, constant("p::P<"+text+",int>", "call p::put(int 1, call p::any)"), l, want, strings.ReplaceAll(strings.ReplaceAll(diags, "@4", "@"+strconv.Itoa(n+3)), "@6", "@"+strconv.Itoa(n+5)), "p::S int@"+strconv.Itoa(n+3))
		// the goal has a type of its own
		goal := "p::S " + alone(text, n) + "@4"
		want, diags = "call p::m<"+alone(text, n)+">(global p::w, int 1)", ""
		if n+1 > api.MaxWide {
			diags = "11@4 p::m"
		}
		checkBody(t, constant("unit", "block(do(call p::m(global p::w, int 1)), unit)"), l, "block(do("+want+"), unit)", diags, goal)
	}
}

// A type has its fields, and equations hold, however many nodes it has.
func TestFieldsOfWideTypes(t *testing.T) {
	for n := api.MaxWide - 2; n <= api.MaxWide+2; n++ {
		l := append(wide(n), known("p::W record A | a:$A b:bool = p::W<$A>; p::f fn | p::W = bool")...)
		l[2].Sig.Args[0] = wide(n)[0].Sig.Result
		checkBody(t, constant("bool", "dot b(global p::w)"), l, "dot 1(global p::w)", "", "")
		checkBody(t, constant("int", "dot a(global p::w)"), l, "dot 0(global p::w)", "", "")
		checkBody(t, constant("int", "dot c(global p::w)"), l, "bad c(global p::w)", "10@2 c", "")
		checkBody(t, constant("int", "dot b(call p::f(global p::w))"), l, "bad b(call p::f(global p::w))", "10@2 b", "")
		checkBody(t, constant("bool", "call p::f(global p::w)"), l, "call p::f(global p::w)", "", "")
		l[2].Sig.Args[0].Args[n-2].Name = "bool"
		checkBody(t, constant("unit", "dot b(global p::w)"), l, "dot 1(global p::w)", "9@2", "")
		checkBody(t, constant("bool", "call p::f(global p::w)"), l, "call p::f(global p::w)", "9@3", "")
	}
}

// Types that double soon have more nodes than could be written.
func TestTypesThatDouble(t *testing.T) {
	for _, n := range []int{7, 8, 60, 300} {
		value, want, wide := "let x0@0(int 1)", "let x0@0(int 1)", ""
		size, text := 1, "int"
		for i := range n {
			before := "local x" + strconv.Itoa(i) + "@0"
			name, kids := ", let x"+strconv.Itoa(i+1)+"@0(", "("+before+", "+before+", bad))"
			value += name + "new p::P" + kids
			text = "p::P<" + alone(text, size) + "," + alone(text, size) + ">"
			want += name + "new " + text + kids
			size = min(2*size+1, 1000)
			if size > api.MaxWide {
				wide += ", 11@" + strconv.Itoa(6+5*i) + " p::P"
			}
		}
		got := infer.Body(constant("unit", "block("+value+", unit)"), definitions())
		if show(got.Tree.Kids[1]) != "block("+want+", unit)" || showDiags(got.Diags) != strings.TrimPrefix(wide, ", ") {
			t.Errorf("%d levels: %s, expected %s", n, showDiags(got.Diags), wide)
		}
		if len(got.Goals) != n || n > 7 && showType(got.Goals[n-1].Type) != "error" || showType(got.Goals[0].Type) != "int" {
			t.Errorf("%d levels: %d goals", n, len(got.Goals))
		}
	}
}
