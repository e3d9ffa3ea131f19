package resolve_test

import (
	"testing"

	"recompile/api"
	"recompile/resolve"
)

// known has names that are found once (also in equal binds), several times, and names of the language and of type parameters.
const known = "R=p::R,L=q::List,same=p::same,same=p::same,Z=p::Z,Z=q::Z,T=p::T,S=p::S,U=p::U,U=q::U"

func TestTypesWithoutKids(t *testing.T) {
	for text, want := range map[string]string{
		"int": "int", "bool": "bool", "unit": "unit",
		"T": "$T", "U": "$U", "V": "$V", // type parameters that are found once, twice and not at all
		"R": "p::R", "L": "q::List", "same": "p::same", "S": "p::S",
	} {
		check(t, numbered(api.KFn, "f", params("T", "U", "V"), typeOf(text)), binds(known), "fn f(params(param T, param U, param V), type "+want+")", "")
	}
	for text, code := range map[string]string{
		"none": "4", "Int": "4", "error": "4", "Self": "4", "p::R": "4", "::R": "4", "R::": "4", "$T": "4", "": "4", "t": "4", "in": "4", "ints": "4", "f": "4", "Z": "5",
	} {
		check(t, numbered(api.KFn, "f", params("T"), typeOf(text)), binds(known), "fn f(params(param T), type error)", code+"@3 "+text)
	}
}

func TestTypesWithKids(t *testing.T) {
	for text, want := range map[string]string{"R": "p::R", "L": "q::List", "same": "p::same", "T": "p::T", "S": "p::S"} {
		in := numbered(api.KFn, "f", params("T", "U"), typeOf(text, typeOf("T"), typeOf("int"), typeOf("L", typeOf("U"))))
		check(t, in, binds(known), "fn f(params(param T, param U), type "+want+"(type $T, type int, type q::List(type $U)))", "")
	}
	// Also names of the language and type parameters are looked for if they have Kids; what is not found has no Kids any longer, and these are not looked at.
	for text, code := range map[string]string{"int": "4", "bool": "4", "unit": "4", "V": "4", "Self": "4", "none": "4", "U": "5", "Z": "5"} {
		in := numbered(api.KFn, "f", params("T", "U", "V"), typeOf(text, typeOf("T"), typeOf("none"), typeOf("Z", typeOf("none"))))
		check(t, in, binds(known), "fn f(params(param T, param U, param V), type error)", code+"@5 "+text)
	}
	found := binds(known + ",int=p::int,bool=q::bool,unit=p::u,Self=p::Self,V=p::V")
	for text, want := range map[string]string{"int": "p::int", "bool": "q::bool", "unit": "p::u", "Self": "p::Self", "V": "p::V"} {
		in := numbered(api.KFn, "f", params("V"), typeOf(text, typeOf("V")), typeOf("int"), typeOf("bool"), typeOf("unit"))
		check(t, in, found, "fn f(params(param V), type "+want+"(type $V), type int, type bool, type unit)", "")
	}
}

// What is found once is the definition, whatever it is and whatever the name is.
func TestTypesAreWhatIsFound(t *testing.T) {
	odd := []api.Bind{{Name: "", Def: "p::x"}, {Name: "a", Def: ""}, {Name: "::b", Def: "b"}, {Name: "p::c", Def: "::c"}, {Name: "d", Def: "int"}, {Name: "e", Def: "error"}, {Name: "$g", Def: "e"}}
	for text, want := range map[string]string{"": "type p::x", "a": "type", "::b": "type b", "p::c": "type ::c", "d": "type int", "e": "type error", "$g": "type e"} {
		check(t, numbered(api.KTypeOf, text), odd, want, "")
		check(t, numbered(api.KTypeOf, text, typeOf("a"), typeOf("int")), odd, want+"(type, type int)", "")
	}
}

func TestTypesWithinTypes(t *testing.T) {
	check(t, numbered(api.KTypeOf, "L", typeOf("L", typeOf("none", typeOf("none"))), typeOf("Z"), typeOf("R")), binds(known), "type q::List(type q::List(type error), type error, type p::R)", "4@2 none, 5@4 Z")
	check(t, numbered(api.KTypeOf, "L", name("R"), tree(api.KCall, "none", 0), tree(api.KInt, "1", 0)), binds(known), "type q::List(global p::R, bad none, int 1)", "4@2 none")
	check(t, numbered(api.KTypeOf, "none", name("none"), tree(api.KCall, "none", 0), tree(api.KExpand, "none", 0)), binds(known), "type error", "4@0 none")
}

func TestTypesOfItems(t *testing.T) {
	for text, c := range map[string][2]string{
		"const c: R = 1;":                                        {"const c(type p::R, int 1)", ""},
		"const c: none = 1;":                                     {"const c(type error, int 1)", "4@1 none"},
		"const c: c = 1;":                                        {"const c(type error, int 1)", "4@1 c"},
		"fn f<T>(a: T, b: L<T>) -> L<T> { a }":                   {"fn f(params(param T), args(arg a@0(type $T), arg b@1(type q::List(type $T))), type q::List(type $T), block(local a@0))", ""},
		"fn f<A>(a: T) { a }":                                    {"fn f(params(param A), args(arg a@0(type p::T)), type unit, block(local a@0))", ""},
		"type f<T> { a: T, b: L<f>, c: Z }":                      {"record f(params(param T), args(arg a(type $T), arg b(type q::List(type error)), arg c(type error)))", "4@8 f, 5@10 Z"},
		"trait f { fn m(s: Self, r: L<Self>) -> Self; fn n(); }": {"trait f(supers, sig m(args(arg s(type $Self), arg r(type q::List(type $Self))), type $Self), sig n(args, type unit))", ""},
		"impl<T> S for L<T> { fn m(s: T, t: L<U>) -> Self2 { s } }": {
			"impl p::S(params(param T), type q::List(type $T), fn m(params, args(arg s@0(type $T), arg t@1(type q::List(type error))), type error, block(local s@0)))", "5@12 U, 4@13 Self2",
		},
	} {
		check(t, item(t, text), binds(known), c[0], c[1])
	}
}

// A KTypeOf is resolved below every node.
func TestTypesBelowEachKind(t *testing.T) {
	for kind := -1; kind <= 41; kind++ {
		if kind == api.KMacro || kind == api.KTypeOf {
			continue
		}
		in := block(tree(kind, "R", 0, typeOf("R"), typeOf("Z"), typeOf("Self"), tree(kind, "R", 0, typeOf("L", typeOf("int")))))
		got := resolve.Resolve(in, binds(known)).Tree.Kids[0]
		self := "type error"
		if kind == api.KSig {
			self = "type $Self"
		}
		if s := shows(got.Kids[:3]); s != "type p::R, type error, "+self {
			t.Errorf("below %s: %s", word(kind), s)
		}
		if s := shows(got.Kids[3].Kids); s != "type q::List(type int)" {
			t.Errorf("below two %s: %s", word(kind), s)
		}
	}
}

// Type parameters are those of the first Kid of the tree alone.
func TestTypeParameters(t *testing.T) {
	in := func(kids ...api.Tree) api.Tree { return numbered(api.KFn, "f", kids...) }
	of := typeOf("V")
	for _, c := range []struct {
		in          api.Tree
		want, diags string
	}{
		{in(params("V"), of), "fn f(params(param V), type $V)", ""},
		{in(params("A", "V", "V", "B"), of), "fn f(params(param A, param V, param V, param B), type $V)", ""},
		{in(params(), of), "fn f(params, type error)", "4@2 V"},
		{in(params("v"), of), "fn f(params(param v), type error)", "4@3 V"},
		{in(of, params("V")), "fn f(type error, params(param V))", "4@1 V"},
		{in(args(), params("V"), of), "fn f(args, params(param V), type error)", "4@4 V"},
		{in(params("A"), params("V"), of), "fn f(params(param A), params(param V), type error)", "4@5 V"},
		{in(tree(api.KArgs, "", 0, tree(api.KParam, "V", 0)), of), "fn f(args(param V), type error)", "4@3 V"},
		{in(tree(api.KParams, "", 0, tree(api.KArg, "V", 0)), of), "fn f(params(arg V), type error)", "4@3 V"},
		{in(tree(api.KParams, "", 0, tree(api.KParams, "V", 0)), of), "fn f(params(params V), type error)", "4@3 V"},
		{in(tree(api.KParams, "", 0, typeOf("V")), of), "fn f(params(type error), type error)", "4@2 V, 4@3 V"},
		{in(tree(api.KParams, "", 0, tree(api.KParam, "A", 0, tree(api.KParam, "V", 0))), of), "fn f(params(param A(param V)), type error)", "4@4 V"},
		{in(tree(api.KParams, "V", 0), of), "fn f(params V, type error)", "4@2 V"},
		{in(fn(params("V"), of), of), "fn f(fn f(params(param V), type error), type error)", "4@4 V, 4@5 V"},
		{in(params("A"), fn(params("V"), of), of), "fn f(params(param A), fn f(params(param V), type error), type error)", "4@6 V, 4@7 V"},
		{in(params("V"), fn(params("A"), of, typeOf("A"))), "fn f(params(param V), fn f(params(param A), type $V, type error))", "4@7 A"},
		{in(tree(api.KParams, "", 0, tree(api.KParam, "V", 0, of)), fn(block(let("y", of)))), "fn f(params(param V(type $V)), fn f(block(let y@0(type $V))))", ""},
		{numbered(api.KParams, "", tree(api.KParam, "V", 0), of), "params(param V, type error)", "4@2 V"},
		{numbered(api.KParams, "", params("V"), of), "params(params(param V), type $V)", ""},
		{numbered(api.KTypeOf, "R", params("V"), of), "type p::R(params(param V), type $V)", ""},
		{numbered(0, "", params("V", ""), of, typeOf("")), "0(params(param V, param), type $V, type $)", ""},
		{numbered(api.KModule, "", params("int", "Self", "p::R"), typeOf("int"), typeOf("Self"), typeOf("p::R")), "module(params(param int, param Self, param p::R), type int, type $Self, type $p::R)", ""},
		{numbered(api.KSig, "m", params("V"), of), "sig m(params(param V), type $V)", ""},
		{numbered(api.KTypeOf, "V", params("V")), "type error", "4@0 V"},
		{numbered(api.KTypeOf, "V"), "type error", "4@0 V"},
	} {
		check(t, c.in, binds(known), c.want, c.diags)
	}
}

func TestSelf(t *testing.T) {
	self := typeOf("Self")
	sig := func(kids ...api.Tree) api.Tree { return tree(api.KSig, "m", 0, kids...) }
	for _, c := range []struct {
		in          api.Tree
		want, diags string
	}{
		{numbered(api.KTypeOf, "Self"), "type error", "4@0 Self"},
		{numbered(api.KSig, "m", self), "sig m(type $Self)", ""},
		{numbered(api.KSig, "m", typeOf("L", self)), "sig m(type q::List(type $Self))", ""},
		{numbered(api.KSig, "m", typeOf("Self", self)), "sig m(type error)", "4@1 Self"},
		{numbered(api.KSig, "m", typeOf("none", self)), "sig m(type error)", "4@1 none"},
		{numbered(api.KSig, "Self", typeOf("self"), typeOf("Sel")), "sig Self(type error, type error)", "4@1 self, 4@2 Sel"},
		{numbered(api.KSig, "m", fn(args("x"), block(let("y", block(self)), name("x")))), "sig m(fn f(args(arg x@0), block(let y@1(block(type $Self)), local x@0)))", ""},
		{numbered(api.KSig, "m", name("R"), tree(api.KImpl, "S", 0, self), sig(self), self), "sig m(global p::R, impl p::S(type $Self), sig m(type $Self), type $Self)", ""},
		{numbered(api.KTrait, "t", self, sig(self), self, sig(), self), "trait t(type error, sig m(type $Self), type error, sig m, type error)", "4@1 Self, 4@4 Self, 4@6 Self"},
		{numbered(api.KBlock, "", fn(sig(), block(self)), block(sig(block(self)), self)), "block(fn f(sig m, block(type error)), block(sig m(block(type $Self)), type error))", "4@4 Self, 4@9 Self"},
		{numbered(api.KTypeOf, "R", sig(self), self), "type p::R(sig m(type $Self), type error)", "4@3 Self"},
		{numbered(api.KSig, "m", tree(api.KParams, "", 0, tree(api.KParam, "T", 0, name("S"))), self, typeOf("T")), "sig m(params(param T(name p::S)), type $Self, type $T)", ""},
		{numbered(api.KFn, "m", params("Self"), self, sig(self)), "fn m(params(param Self), type $Self, sig m(type $Self))", ""},
	} {
		check(t, c.in, binds(known), c.want, c.diags)
	}
	// In a KSig what Lookup finds for Self matters only if it has Kids.
	check(t, numbered(api.KTrait, "t", self, sig(self, typeOf("Self", self))), binds("Self=p::Self"), "trait t(type p::Self, sig m(type $Self, type p::Self(type $Self)))", "")
}
