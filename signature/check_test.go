package signature_test

import (
	"strings"
	"testing"

	"recompile/api"
	"recompile/signature"
)

// checkCase is a tree with definitions, and the diagnostics.
type checkCase struct{ tree, known, want string }

func checkAll(t *testing.T, cases []checkCase) {
	t.Helper()
	for _, c := range cases {
		if got := showDiags(signature.Check(of(c.tree), known(c.known))); got != c.want {
			t.Errorf("%s with %s:\n%s, not\n%s", c.tree, c.known, got, c.want)
		}
	}
}

func TestCheckOfTypes(t *testing.T) {
	checkAll(t, []checkCase{
		// nothing is wrong
		{"type p::R", "p::R record", ""},
		{"type p::R", "p::R record 0", ""},
		{"type p::L(type int)", "p::L record 1", ""},
		{"type p::P(type int, type $T)", "p::P record 2", ""},
		{"type p::L(type p::L(type p::R))", "p::L record 1,p::R record", ""},
		{"type p::P(name x, zero)", "p::P record 2", ""},
		// without two colons nothing is asked
		{"type int", "", ""},
		{"type", "", ""},
		{"type int(type bool, type R)", "int trait,R trait", ""},
		{"type error(type $T, type p:R, type a:b:c)", "error trait,p:R fn", ""},
		// no record
		{"type p::R", "", "7@0 p::R"},
		{"type p::R", "p::r record,q::R record,R record,p::Ra record,p:: record", "7@0 p::R"},
		{"type p::R", "p::R none", "7@0 p::R"},
		{"type p::R", "p::R const", "7@0 p::R"},
		{"type p::R", "p::R fn", "7@0 p::R"},
		{"type p::R", "p::R trait", "7@0 p::R"},
		{"type p::R", "p::R method", "7@0 p::R"},
		{"type p::R", "p::R macro", "7@0 p::R"},
		{"type p::R", "p::R impl", "7@0 p::R"},
		{"type ::", "", "7@0 ::"},
		{"type ::R", "R record", "7@0 ::R"},
		{"type p::R(type int)", "p::R fn 1", "7@0 p::R"},
		{"type p::R(type int)", "p::R fn 2", "7@0 p::R"},
		{"type p::R(type p::R(type q::R))", "", "7@0 p::R, 7@1 p::R, 7@2 q::R"},
		// more and fewer Kids than Params
		{"type p::L", "p::L record 1", "8@0 p::L"},
		{"type p::L(type int, type int)", "p::L record 1", "8@0 p::L"},
		{"type p::R(type int)", "p::R record", "8@0 p::R"},
		{"type p::P(type int)", "p::P record 2", "8@0 p::P"},
		{"type p::P", "p::P record 2", "8@0 p::P"},
		{"type p::P(type a, type b, type c)", "p::P record 2", "8@0 p::P"},
		{"type p::P(type p::L, type p::R(type p::N))", "p::L record 1,p::P record 2,p::R record", "8@1 p::L, 8@2 p::R, 7@3 p::N"},
		// the first element with the Def counts
		{"type p::R", "p::R record,p::R trait", ""},
		{"type p::R", "p::R trait,p::R record", "7@0 p::R"},
		{"type p::R", "p::R none,p::R record", "7@0 p::R"},
		{"type p::R", "q::R trait,p::R record,p::R trait,p::R record 1", ""},
		{"type p::R", "p::R record 1,p::R record,p::R record", "8@0 p::R"},
		{"type p::R(type int)", "q::R record,p::R record 1,p::R record 2", ""},
		// wherever it stands
		{"fn f(params(param T(type p::A)), args(arg x(type p::B)), type p::C(type p::D), block(let y(type p::E), type p::F))", "", "7@3 p::A, 7@6 p::B, 7@7 p::C, 7@8 p::D, 7@11 p::E, 7@12 p::F"},
		{"macro m(args(name x), zero(type p::R(supers(type p::A))))", "p::R record 1", "7@6 p::A"},
	})
}

func TestCheckOfTraits(t *testing.T) {
	for _, c := range []checkCase{
		// % is a node that must name a trait, at 1
		{"% p::S", "p::S trait", ""},
		{"% p::S", "p::S trait 3", ""},
		{"% p::S(name x, zero)", "p::S trait", ""},
		{"% S", "", ""},
		{"% S", "S record", ""},
		{"%", "", ""},
		{"% p:S", "p:S fn", ""},
		{"% a:b:c", "", ""},
		{"% p::S", "", "7@1 p::S"},
		{"% p::S", "p::s trait,q::S trait,S trait,p::Sa trait", "7@1 p::S"},
		{"% p::S", "p::S none", "7@1 p::S"},
		{"% p::S", "p::S const", "7@1 p::S"},
		{"% p::S", "p::S fn", "7@1 p::S"},
		{"% p::S", "p::S record", "7@1 p::S"},
		{"% p::S", "p::S method", "7@1 p::S"},
		{"% p::S", "p::S macro", "7@1 p::S"},
		{"% p::S", "p::S impl", "7@1 p::S"},
		{"% ::", "", "7@1 ::"},
		{"% ::S", "S trait", "7@1 ::S"},
		{"% p::S(type p::R)", "p::R record 1", "7@1 p::S, 8@2 p::R"},
		{"% p::S, type p::R, % p::S", "p::R record", "7@1 p::S, 7@3 p::S"},
		// the first element with the Def counts
		{"% p::S", "p::S trait,p::S record", ""},
		{"% p::S", "q::S fn,p::S record,p::S trait", "7@1 p::S"},
		{"% p::S", "p::S none,p::S trait", "7@1 p::S"},
	} {
		for node, around := range map[string][]string{"name": {"param T", "supers", "param p::T", "supers p::S"}, "impl": {"module", "zero", "param T", "args", "impl S"}} {
			for _, above := range around {
				whole := above + "(" + strings.ReplaceAll(c.tree, "%", node) + ")"
				checkAll(t, []checkCase{{whole, c.known, c.want}})
			}
		}
	}
	checkAll(t, []checkCase{
		{"impl p::S", "", "7@0 p::S"},
		{"impl p::S", "p::S trait", ""},
		{"impl p::S", "p::S record", "7@0 p::S"},
		{"impl p::S(params(param T(name p::A)), type p::L(type $T), fn m(params, args(arg s@0(type p::R)), type int, impl p::B))", "p::L record 1", "7@0 p::S, 7@3 p::A, 7@10 p::R, 7@12 p::B"},
		// a KName elsewhere names no trait
		{"name p::S", "", ""},
		{"module(name p::S, name p::R)", "p::S record", ""},
		{"sig m(args(name p::S), type int, name p::S)", "", ""},
		{"params(name p::S, param p::T)", "", ""},
		{"type int(name p::S)", "", ""},
		{"impl S(name p::S)", "", ""},
		{"param T(type int(name p::S), supers p::S, name p::A(name p::S))", "p::A trait", ""},
		{"supers(global p::S, local p::S, bad p::S, call p::S, new p::S, zero p::S)", "", ""},
	})
}

func TestCheckOfDuplicates(t *testing.T) {
	checkAll(t, []checkCase{
		// in one node
		{"params(param T, param U)", "", ""},
		{"params(param T, param T)", "", "2@2 T"},
		{"params(param T, param U, param T, param U, param T)", "", "2@3 T, 2@4 U, 2@5 T"},
		{"args(arg x(type int), arg y(type int))", "", ""},
		{"args(arg x(type int), arg x(type int))", "", "2@3 x"},
		{"args(arg x, arg y, arg z, arg y)", "", "2@4 y"},
		{"args(arg x, arg X, arg xx, arg)", "", ""},
		{"args(arg, arg)", "", "2@2 "},
		{"params(param, param)", "", "2@2 "},
		// up to the first "@"
		{"args(arg x@0, arg x@1)", "", "2@2 x@1"},
		{"args(arg x@0, arg y@1)", "", ""},
		{"args(arg x@0, arg x@0)", "", "2@2 x@0"},
		{"args(arg x, arg x@1)", "", "2@2 x@1"},
		{"args(arg x@1, arg x)", "", "2@2 x"},
		{"args(arg x@, arg x)", "", "2@2 x"},
		{"args(arg x@1@2, arg x@3@4)", "", "2@2 x@3@4"},
		{"args(arg @x, arg @y)", "", "2@2 @y"},
		{"args(arg, arg @0)", "", "2@2 @0"},
		{"args(arg x@0, arg x#1@1)", "", ""},
		{"args(arg x@y, arg y@x)", "", ""},
		{"params(param T@1, param T@2, param T)", "", "2@2 T@2, 2@3 T"},
		// in different nodes
		{"fn f(params(param T), args(arg T), type int, block)", "", ""},
		{"fn f(params(param T), args(arg x), params(param T), args(arg x))", "", ""},
		{"impl S(params(param T), type int, fn m(params, args(arg x@0), type int, block), fn m(params(param T), args(arg x@1), type int, block))", "", ""},
		{"args(arg x(args(arg x)), arg y(args(arg y)))", "", ""},
		{"params(param T(param T), param U(param T, param U))", "", ""},
		{"args x(arg x)", "", ""},
		{"args(args(arg x), args(arg x), arg x)", "", ""},
		// behind what lies below the first one
		{"args(arg x(type p::R, args(arg y)), arg x, arg y)", "", "7@2 p::R, 2@5 x"},
		{"args(arg x(args(arg x, arg x)), arg x)", "", "2@4 x, 2@5 x"},
		{"args(arg y(args(arg z), type int), arg z(args(arg y)))", "", ""},
		// a Kid before it, of whatever Kind
		{"args(name x, arg x@0)", "", "2@2 x@0"},
		{"args(type x@5, arg x@0)", "", "2@2 x@0"},
		{"args(zero, arg)", "", "2@2 "},
		{"args(arg x, name x)", "", ""},
		{"args(arg x, param x)", "", "2@2 x"},
		{"params(name T, param T)", "", "2@2 T"},
		{"params(param T, name T)", "", ""},
		// a KParam anywhere, a KArg in a KArgs alone
		{"block(param T, param T)", "", "2@2 T"},
		{"param T(param T, param T)", "", "2@2 T"},
		{"supers(name T, param T)", "", "2@2 T"},
		{"params(arg x, arg x)", "", ""},
		{"block(arg x, arg x)", "", ""},
		{"arg x(arg x, arg x)", "", ""},
		{"zero(arg x, arg x)", "", ""},
		{"param T", "", ""},
		{"arg x", "", ""},
		// other nodes with the same Text
		{"args(name x, name x)", "", ""},
		{"supers(name S, name S)", "", ""},
		{"trait d(supers, sig m, sig m)", "", ""},
		{"impl S(params, type int, fn m, fn m)", "", ""},
		{"block(let x@0, let x@1, local x@0, local x@0, const c, const c, args, args, params, params)", "", ""},
		{"type L(type int, type int)", "", ""},
		// the Texts have two colons
		{"params(param p::T, param p::T)", "p::T record", "2@2 p::T"},
		{"args(arg p::T, arg p::T@1)", "", "2@2 p::T@1"},
	})
}

func TestCheckOfDefinitions(t *testing.T) {
	checkAll(t, []checkCase{
		{
			"fn f(params(param T(name p::S), param T(name p::R)), args(arg x@0(type p::R), arg y@1(type p::S), arg x@2(type p::L)), type p::L(type p::N), block)", "p::S trait,p::R record,p::L record 1",
			"2@4 T, 7@5 p::R, 7@10 p::S, 2@11 x@2, 8@12 p::L, 7@14 p::N",
		},
		{
			"record d(params(param T, param T), args(arg a(type p::L(type p::L)), arg a(type p::d(type $T))))", "p::d record 2,p::L record 1",
			"2@3 T, 8@7 p::L, 2@8 a, 8@9 p::d",
		},
		{
			"trait d(supers(name p::A, name p::B, name p::A), sig m(args(arg s(type $Self), arg s(type p::A)), type p::d), sig m(args(arg s(type $Self)), type int))", "p::A trait,p::d trait",
			"7@3 p::B, 2@9 s, 7@10 p::A, 7@11 p::d",
		},
		{
			"sig m(args(arg s(type $Self), arg s(type p::R)), type p::S, name p::S)", "p::S trait,p::R record",
			"2@4 s, 7@6 p::S",
		},
		{
			"impl p::R(params(param T(name p::L), param T), type p::L, fn m(params(param T), args(arg x@0(type p::L), arg x@1(type int)), type p::N, block))", "p::R record,p::L record 1",
			"7@0 p::R, 7@3 p::L, 2@4 T, 8@5 p::L, 8@11 p::L, 2@12 x@1, 7@14 p::N",
		},
		{"const c(type p::L, int 1)", "p::L record 1", "8@1 p::L"},
		{"use p", "", ""},
		{"zero", "", ""},
	})
}

// Node is the At of the node, whatever it is.
func TestPlacesOfDiagnostics(t *testing.T) {
	in := tree(api.KImpl, "p::S", 7,
		tree(api.KParams, "", 1, tree(api.KParam, "T", 4, tree(api.KName, "p::S", -3)), tree(api.KParam, "T", 4, tree(api.KName, "p::A", 1<<40))),
		tree(api.KTypeOf, "p::L", 0, tree(api.KTypeOf, "p::R", 7)))
	got := showDiags(signature.Check(in, known("p::L record 2,p::A trait")))
	if got != "7@7 p::S, 7@-3 p::S, 2@4 T, 8@0 p::L, 7@7 p::R" {
		t.Errorf("%s", got)
	}
}

// Only Def, Kind and the number of Params of what is known matter.
func TestCheckOfWhatIsKnown(t *testing.T) {
	in := of("param T(name p::S, type p::L(type int))")
	l := known("p::S trait,p::L record 1")
	l[0].Sig = signature.Of("p::S", of("trait d(supers(name p::B), sig m)"))
	l[1].Sig = signature.Of("p::L", of("record d(params(param T(name p::N)), args(arg a(type p::N), arg a(type p::N)))"))
	if got := signature.Check(in, l); len(got) != 0 {
		t.Errorf("%s", showDiags(got))
	}
	l[1].Sig.Args = append(l[1].Sig.Args, api.Type{Name: "p::N"})
	l[1].Sig.Names, l[1].Sig.Result, l[1].Sig.Trait = nil, api.Type{}, "p::N"
	if got := signature.Check(in, l); len(got) != 0 {
		t.Errorf("%s", showDiags(got))
	}
	l[1].Sig.Params = append(l[1].Sig.Params, api.Param{})
	if got := showDiags(signature.Check(in, l)); got != "8@2 p::L" {
		t.Errorf("%s", got)
	}
}
