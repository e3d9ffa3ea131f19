package infer_test

import (
	"testing"

	"recompile/api"
	"recompile/infer"
)

func TestDots(t *testing.T) {
	for _, c := range []struct{ result, value, want, diags string }{
		{"int", "dot a(global p::r)", "dot 0(global p::r)", ""}, {"bool", "dot b(global p::r)", "dot 1(global p::r)", ""}, {"bool", "dot a(global p::r)", "dot 0(global p::r)", "9@2"}, {"int", "dot b(global p::r)", "dot 1(global p::r)", "9@2"}, {"int", "unary -(dot b(global p::r))", "unary -(dot 1(global p::r))", "9@3"},
		{"int", "dot a(new p::R(int 1, bool true))", "dot 0(new p::R(int 1, bool true))", ""}, {"int", "dot a(block(global p::r))", "dot 0(block(global p::r))", ""}, {"int", "dot head(call p::id(global p::l))", "dot 0(call p::id<p::L<int>>(global p::l))", ""},
		// the Params are the Args of the type
		{"int", "dot head(global p::l)", "dot 0(global p::l)", ""}, {"p::L<int>", "dot tail(global p::l)", "dot 1(global p::l)", ""}, {"int", "dot head(dot tail(dot tail(global p::l)))", "dot 0(dot 1(dot 1(global p::l)))", ""}, {"bool", "dot head(dot tail(global p::l))", "dot 0(dot 1(global p::l))", "9@2"},
		// there is no such field, and t is error
		{"int", "dot c(global p::r)", "bad c(global p::r)", "10@2 c"}, {"bool", "dot c(global p::r)", "bad c(global p::r)", "10@2 c"}, {"int", "unary !(dot A(global p::r))", "unary !(bad A(global p::r))", "10@3 A, 9@2"}, {"int", "dot(global p::r)", "bad(global p::r)", "10@2"}, {"int", "dot 0(global p::r)", "bad 0(global p::r)", "10@2 0"}, {"int", "dot a(new p::N)", "bad a(new p::N)", "10@2 a"},
		{"int", "dot a(dot c(global p::r))", "bad a(bad c(global p::r))", "10@3 c"}, {"int", "dot c(dot b(global p::r))", "bad c(dot 1(global p::r))", "10@2 c"},
		// no record
		{"int", "dot a(int 1)", "bad a(int 1)", "10@2 a"}, {"int", "dot a(bool true)", "bad a(bool true)", "10@2 a"}, {"int", "dot a(unit)", "bad a(unit)", "10@2 a"}, {"int", "dot a(let x@0(int 1))", "bad a(let x@0(int 1))", "10@2 a"},
		// error
		{"int", "dot a(bad x)", "bad a(bad x)", ""}, {"bool", "dot a(bad x)", "bad a(bad x)", ""}, {"int", "dot a(global p::e)", "bad a(global p::e)", ""}, {"int", "dot a(local x@0)", "bad a(local x@0)", ""}, {"int", "dot a(dot b(bad x))", "bad a(bad b(bad x))", ""}, {"int", "dot a(call p::id(bad x))", "bad a(call p::id<error>(bad x))", ""}, {"int", "dot a(name x)", "bad a(name x)", ""},
		// without Kids
		{"int", "dot a", "bad a", ""}, {"bool", "dot a", "bad a", ""}, {"int", "dot c(dot a)", "bad c(bad a)", ""}, {"int", "dot", "bad", ""},
		// the first Kid counts
		{"int", "dot a(global p::r, int 1)", "dot 0(global p::r, int 1)", ""}, {"int", "dot a(int 1, global p::r)", "bad a(int 1, global p::r)", "10@2 a"}, {"int", "dot a(global p::r, unary -(unit))", "dot 0(global p::r, unary -(unit))", "9@5"}, {"int", "dot a(bad, dot b(global p::r))", "bad a(bad, dot 1(global p::r))", ""},
		// a variable
		{"int", "dot a(call p::any)", "bad a(call p::any<error>)", "11@2 a, 11@3 p::any"}, {"bool", "dot a(call p::any)", "bad a(call p::any<error>)", "11@2 a, 11@3 p::any"}, {"int", "unary -(dot a(call p::any))", "unary -(bad a(call p::any<error>))", "11@3 a, 11@4 p::any"}, {"int", "dot a(call p::head(call p::any))", "bad a(call p::head<error>(call p::any<p::L<error>>))", "11@2 a, 11@3 p::head, 11@4 p::any"},
	} {
		checkValue(t, c.result, c.value, c.want, c.diags)
	}
}

// What counts is the solution at the time when the KDot is visited.
func TestDotsBeforeAndAfterTheTypeIsKnown(t *testing.T) {
	for _, c := range []struct{ value, want, diags string }{
		{"block(let x@0(call p::any), dot a(local x@0), let y@1(call p::two(local x@0, global p::r)), dot a(local x@0), unit)", "block(let x@0(call p::any<p::R>), bad a(local x@0), let y@1(call p::two(local x@0, global p::r)), dot 0(local x@0), unit)", "11@5 a"},
		{"block(let x@0(call p::any), dot a(local x@0), do(unary -(local x@0)), dot a(local x@0), unit)", "block(let x@0(call p::any<int>), bad a(local x@0), do(unary -(local x@0)), bad a(local x@0), unit)", "11@5 a, 10@10 a"},
		{"block(let x@0(new p::L(call p::any, call p::any)), dot a(dot head(local x@0)), unit)", "block(let x@0(new p::L<error>(call p::any<error>, call p::any<p::L<error>>)), bad a(dot 0(local x@0)), unit)", "11@7 a, 11@4 p::L, 11@5 p::any, 11@6 p::any"},
		{"block(let x@0(new p::L(call p::any, call p::any)), dot a(dot head(local x@0)), let y@1(call p::two(dot head(local x@0), bad)), dot a(dot head(dot tail(local x@0))), unit)", "block(let x@0(new p::L<p::R>(call p::any<p::R>, call p::any<p::L<p::R>>)), bad a(dot 0(local x@0)), let y@1(call p::two(dot 0(local x@0), bad)), dot 0(dot 0(dot 1(local x@0))), unit)", "11@7 a"},
		// the KDot itself gives its Kid no type
		{"block(let x@0(call p::any), dot head(local x@0), dot head(local x@0), unit)", "block(let x@0(call p::any<error>), bad head(local x@0), bad head(local x@0), unit)", "11@5 head, 11@7 head, 11@4 p::any"},
		// a field gives types, too
		{"block(let x@0(new p::E), let y@1(new p::L(local x@0, call p::any)), assign x@0(dot head(local y@1)), let z@2(call p::same(local x@0, bad)), unit)", "block(let x@0(new p::E<error>), let y@1(new p::L<p::E<error>>(local x@0, call p::any<p::L<p::E<error>>>)), assign x@0(dot 0(local y@1)), let z@2(call p::same<p::E<error>>(local x@0, bad)), unit)", "11@4 p::E, 11@6 p::L, 11@8 p::any, 11@13 p::same"},
		{"block(let x@0(new p::L(call p::any, call p::any)), print(dot head(dot tail(local x@0))), unit)", "block(let x@0(new p::L<int>(call p::any<int>, call p::any<p::L<int>>)), print(dot 0(dot 1(local x@0))), unit)", ""},
	} {
		checkValue(t, "unit", c.value, c.want, c.diags)
	}
}

// Arguments of a generic function are records, too, or parameters, which have no fields.
func TestDotsOfArguments(t *testing.T) {
	for _, c := range []struct{ args, result, body, want, diags string }{
		{"x@0:p::P<$T,bool>", "$T", "dot a(local x@0)", "dot 0(local x@0)", ""}, {"x@0:p::P<$T,bool>", "bool", "dot b(local x@0)", "dot 1(local x@0)", ""}, {"x@0:p::P<$T,bool>", "p::L<$T>", "dot c(local x@0)", "dot 2(local x@0)", ""}, {"x@0:p::P<$T,bool>", "$U", "dot a(local x@0)", "dot 0(local x@0)", "9@10"},
		{"x@0:p::P<p::L<$U>,bool>", "p::L<p::L<$U>>", "dot c(local x@0)", "dot 2(local x@0)", ""}, {"x@0:p::P<p::L<$U>,bool>", "$U", "dot head(dot a(local x@0))", "dot 0(dot 0(local x@0))", ""}, {"x@0:p::P<$U,$T>", "$T", "dot b(local x@0)", "dot 1(local x@0)", ""}, {"x@0:p::P<$U,$T>", "$U", "dot a(local x@0)", "dot 0(local x@0)", ""},
		{"x@0:$T", "int", "dot a(local x@0)", "bad a(local x@0)", "10@8 a"}, {"x@0:$T<int>", "int", "dot a(local x@0)", "bad a(local x@0)", "10@9 a"}, {"x@0:p::unknown", "int", "dot a(local x@0)", "bad a(local x@0)", "10@8 a"}, {"x@0:p::f", "int", "dot a(local x@0)", "bad a(local x@0)", "10@8 a"}, {"x@0:p::S", "int", "dot a(local x@0)", "bad a(local x@0)", "10@8 a"}, {"x@0:p::m", "int", "dot a(local x@0)", "bad a(local x@0)", "10@8 a"}, {"x@0:", "int", "dot a(local x@0)", "bad a(local x@0)", "11@8 a"},
		{"x@0:error", "int", "dot a(local x@0)", "bad a(local x@0)", ""}, {"x@0:error<int>", "int", "dot a(local x@0)", "bad a(local x@0)", ""}, {"x@0:p::L<error>", "bool", "dot head(local x@0)", "dot 0(local x@0)", ""},
		// another number of Args than there are Params: a parameter without one stays
		{"x@0:p::P<$U>", "$U", "dot a(local x@0)", "dot 0(local x@0)", ""}, {"x@0:p::L", "$T", "dot head(local x@0)", "dot 0(local x@0)", ""}, {"x@0:p::L<int,bool>", "int", "dot head(local x@0)", "dot 0(local x@0)", ""}, {"x@0:p::R<int>", "bool", "dot b(local x@0)", "dot 1(local x@0)", ""},
	} {
		checkBody(t, function("T U", c.args, c.result, c.body), definitions(), c.want, c.diags, "")
	}
}

func TestOtherRecords(t *testing.T) {
	l := known("p::A record T | a:int a:bool b:$T a:unit = p::A<$T>; p::A record T | z:int = p::A<$T>; p::B record T T | a:$T = p::B<$T,$T>; p::C record | = p::C; p::F fn | a:int = p::F; p::D record | a:int = p::D; int record | a:bool = int; $T record | a:bool = $T; p::V record T | a:?x b:p::A<?2> = p::V<$T>; p::G record T U | a:$T<$T> b:p::A<$U<int>,T,$> = p::G<$T,$U>")
	// the names of a signature that is no record do not count
	for i := range l {
		if l[i].Def == "p::F" {
			l[i].Sig.Names, l[i].Sig.Args = []string{"a"}, []api.Type{ty("int")}
		}
		if l[i].Def == "p::D" {
			l[i].Sig.Names = []string{"a", "b", "c"}
		}
	}
	for _, c := range []struct{ args, result, body, want, diags string }{
		// of two fields with one name the first one counts
		{"x@0:p::A<bool>", "int", "dot a(local x@0)", "dot 0(local x@0)", ""}, {"x@0:p::A<bool>", "bool", "dot a(local x@0)", "dot 0(local x@0)", "9@9"}, {"x@0:p::A<bool>", "bool", "dot b(local x@0)", "dot 2(local x@0)", ""},
		// of two signatures, too, and of two parameters
		{"x@0:p::A<bool>", "int", "dot z(local x@0)", "bad z(local x@0)", "10@9 z"}, {"x@0:p::B<int,bool>", "int", "dot a(local x@0)", "dot 0(local x@0)", ""}, {"x@0:p::B<int,bool>", "bool", "dot a(local x@0)", "dot 0(local x@0)", "9@10"},
		{"x@0:p::C", "int", "dot a(local x@0)", "bad a(local x@0)", "10@8 a"}, {"x@0:p::F", "int", "dot a(local x@0)", "bad a(local x@0)", "10@8 a"},
		// a field without a type has the type error
		{"x@0:p::D", "int", "dot a(local x@0)", "dot 0(local x@0)", ""}, {"x@0:p::D", "bool", "dot c(local x@0)", "dot 2(local x@0)", ""}, {"x@0:p::D", "int", "dot d(local x@0)", "bad d(local x@0)", "10@8 d"},
		// a parameter with Args, and what is none, stay
		{"x@0:p::G<int,bool>", "$T<int>", "dot a(local x@0)", "dot 0(local x@0)", ""}, {"x@0:p::G<int,bool>", "int", "dot a(local x@0)", "dot 0(local x@0)", "9@10"}, {"x@0:p::G<int,bool>", "p::A<$U<int>,T,$>", "dot b(local x@0)", "dot 1(local x@0)", ""},
		// any Name can be that of a record
		{"x@0:int", "bool", "dot a(local x@0)", "dot 0(local x@0)", ""}, {"x@0:$T", "bool", "dot a(local x@0)", "dot 0(local x@0)", ""}, {"x@0:bool", "bool", "dot a(local x@0)", "bad a(local x@0)", "10@8 a"},
		{"x@0:p::V<int>", "bool", "dot a(local x@0)", "dot 0(local x@0)", "9@9"}, {"x@0:?x", "bool", "dot a(local x@0)", "bad a(local x@0)", "10@8 a"}, {"x@0:?01", "bool", "dot a(local x@0)", "bad a(local x@0)", "10@8 a"}, {"x@0:?77", "bool", "dot a(local x@0)", "bad a(local x@0)", "11@8 a"}, {"x@0:?1000000", "bool", "dot a(local x@0)", "bad a(local x@0)", "11@8 a"}, {"x@0:?1000001", "bool", "dot a(local x@0)", "bad a(local x@0)", "10@8 a"},
	} {
		checkBody(t, function("T U", c.args, c.result, c.body), l, c.want, c.diags, "")
	}
	if got := infer.Body(function("", "x@0:p::R", "int", "dot a(local x@0)"), nil); showDiags(got.Diags) != "10@6 a" {
		t.Errorf("a record that is not known: %s", showDiags(got.Diags))
	}
}
