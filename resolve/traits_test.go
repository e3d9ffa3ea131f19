package resolve_test

import (
	"testing"

	"recompile/api"
	"recompile/shape"
)

// traitNames are names with what they become where a trait is named, and the code.
func traitNames() []struct{ text, want, code string } {
	return []struct{ text, want, code string }{
		{"R", " p::R", ""}, {"L", " q::List", ""}, {"same", " p::same", ""}, {"S", " p::S", ""}, {"T", " p::T", ""}, {"x", " p::x", ""},
		{"none", " none", "4"}, {"y", " y", "4"}, {"int", " int", "4"}, {"Self", " Self", "4"}, {"p::R", " p::R", "4"}, {"::R", " ::R", "4"}, {"", "", "4"}, {"r", " r", "4"},
		{"Z", " Z", "5"}, {"U", " U", "5"},
		{"odd", " a b", ""}, {"::odd", " ::x", ""}, {"empty", "", ""}, {"a::b", " c", ""},
	}
}

func oddBinds() []api.Bind {
	return append(binds(known+",x=p::x"), api.Bind{Name: "odd", Def: "a b"}, api.Bind{Name: "::odd", Def: "::x"}, api.Bind{Name: "empty"}, api.Bind{Name: "a::b", Def: "c"})
}

// A name of a trait is what Lookup finds, also if there is a variable with this name.
func TestNamesOfTraits(t *testing.T) {
	for _, c := range traitNames() {
		diag := func(at string) string {
			if c.code == "" {
				return ""
			}
			return c.code + "@" + at + " " + c.text
		}
		check(t, numbered(api.KSupers, "", name(c.text)), oddBinds(), "supers(name"+c.want+")", diag("1"))
		check(t, numbered(api.KParam, "T", name(c.text)), oddBinds(), "param T(name"+c.want+")", diag("1"))
		check(t, numbered(api.KSig, "m", name(c.text)), oddBinds(), "sig m(name"+c.want+")", diag("1"))
		check(t, numbered(api.KImpl, c.text), oddBinds(), "impl"+c.want, diag("0"))
		within := func(k api.Tree) api.Tree {
			return shape.Number(fn(args("x", "y"), block(let("R"), let("Z"), let("none"), k)))
		}
		around := "fn f(args(arg x@0, arg y@1), block(let R@2, let Z@3, let none@4, "
		check(t, within(tree(api.KSupers, "", 0, name(c.text))), oddBinds(), around+"supers(name"+c.want+")))", diag("9"))
		check(t, within(tree(api.KParam, "T", 0, name(c.text))), oddBinds(), around+"param T(name"+c.want+")))", diag("9"))
		check(t, within(tree(api.KSig, "m", 0, name(c.text))), oddBinds(), around+"sig m(name"+c.want+")))", diag("9"))
		check(t, within(tree(api.KImpl, c.text, 0)), oddBinds(), around+"impl"+c.want+"))", diag("8"))
	}
}

func TestTraitsOfItems(t *testing.T) {
	for text, c := range map[string][2]string{
		"trait A { }":                        {"trait A(supers)", ""},
		"trait A: S + none + Z + R { }":      {"trait A(supers(name p::S, name none, name Z, name p::R))", "4@3 none, 5@4 Z"},
		"trait A: A { }":                     {"trait A(supers(name A))", "4@2 A"},
		"fn f<T: S, V: none, W, X: T>() { }": {"fn f(params(param T(name p::S), param V(name none), param W, param X(name p::T)), args, type unit, block(unit))", "4@5 none"},
		"type A<T: Z> { a: T }":              {"record A(params(param T(name Z)), args(arg a(type $T)))", "5@3 Z"},
		"impl<T: S, V: U> R for T { }":       {"impl p::R(params(param T(name p::S), param V(name U)), type $T)", "5@5 U"},
		"impl none for none { fn m() { } }":  {"impl none(params, type error, fn m(params, args, type unit, block(unit)))", "4@0 none, 4@2 none"},
		"impl Z for L<Z> { }":                {"impl Z(params, type q::List(type error))", "5@0 Z, 5@3 Z"},
	} {
		check(t, item(t, text), binds(known), c[0], c[1])
	}
}

// The KSig of a method has the name of its trait as its last Kid.
func TestTraitOfASig(t *testing.T) {
	in := item(t, "trait A { fn m(s: Self, a: R) -> L<Self>; }").Kids[1]
	in.Kids = append(in.Kids, name("S"))
	in = shape.Number(in)
	check(t, in, binds(known), "sig m(args(arg s(type $Self), arg a(type p::R)), type q::List(type $Self), name p::S)", "")
	in.Kids[2].Text = "A"
	check(t, in, binds(known), "sig m(args(arg s(type $Self), arg a(type p::R)), type q::List(type $Self), name A)", "4@8 A")
}

// Only a KName that is a Kid of a KSupers or a KParam, or the last one of a KSig, names a trait.
func TestOtherNamesInTraits(t *testing.T) {
	R, none := name("R"), name("none")
	deep := func(k ...api.Tree) api.Tree { return tree(api.KName, "R", 0, k...) }
	within := func(kind int, k ...api.Tree) api.Tree { return numbered(kind, "A", k...) }
	for _, c := range []struct {
		in          api.Tree
		want, diags string
	}{
		{within(api.KSig, R, R), "sig A(global p::R, name p::R)", ""},
		{within(api.KSig, none, none, none), "sig A(bad none, bad none, name none)", "4@1 none, 4@2 none, 4@3 none"},
		{within(api.KSig, R, args()), "sig A(global p::R, args)", ""},
		{within(api.KSig, args(), R, typeOf("R")), "sig A(args, global p::R, type p::R)", ""},
		{within(api.KSig, tree(api.KDo, "", 0, R)), "sig A(do(global p::R))", ""},
		{within(api.KSig, deep(R)), "sig A(name p::R(global p::R))", ""},
		{within(api.KSupers, R, none, R), "supers A(name p::R, name none, name p::R)", "4@2 none"},
		{within(api.KSupers, deep(R, none)), "supers A(name p::R(global p::R, bad none))", "4@3 none"},
		{within(api.KSupers, tree(api.KName, "none", 0, R, none)), "supers A(name none(global p::R, bad none))", "4@1 none, 4@3 none"},
		{within(api.KSupers, tree(api.KDo, "", 0, R)), "supers A(do(global p::R))", ""},
		{within(api.KSupers, typeOf("R"), tree(api.KCall, "R", 0), tree(api.KExpand, "R", 0), let("R", R)), "supers A(type p::R, call p::R, bad R, let R@0(global p::R))", "6@3 R"},
		{within(api.KParam, R, R, none), "param A(name p::R, name p::R, name none)", "4@3 none"},
		{within(api.KParam, deep(R)), "param A(name p::R(global p::R))", ""},
		{within(api.KParam, block(let("R"), R)), "param A(block(let R@0, local R@0))", ""},
		{within(api.KParams, R, none), "params A(global p::R, bad none)", "4@2 none"},
		{within(api.KTrait, R, tree(api.KSupers, "", 0)), "trait A(global p::R, supers)", ""},
		{within(api.KArgs, R, tree(api.KArg, "a", 0, R)), "args A(global p::R, arg a(global p::R))", ""},
		{within(api.KImpl, R), "impl A(global p::R)", "4@0 A"},
		{within(api.KTypeOf, R), "type error", "4@0 A"},
		{within(api.KName, R), "bad A(global p::R)", "4@0 A"},
	} {
		check(t, c.in, binds(known), c.want, c.diags)
	}
	// Where a name of a trait has nodes below it, they are where it is.
	in := fn(args("R"), block(tree(api.KSupers, "", 0, deep(R)), tree(api.KSig, "m", 0, R, deep(R, typeOf("Self")))))
	check(t, shape.Number(in), binds(known), "fn f(args(arg R@0), block(supers(name p::R(local R@0)), sig m(local R@0, name p::R(local R@0, type $Self))))", "")
}

func TestKImplsAnywhere(t *testing.T) {
	impl := func(text string, kids ...api.Tree) api.Tree { return tree(api.KImpl, text, 0, kids...) }
	in := numbered(api.KModule, "", impl("S", impl("Z", name("S"))), fn(block(let("S"), impl("S", name("S")), impl("none", typeOf("none"), typeOf("R")))))
	check(t, in, binds(known), "module(impl p::S(impl Z(global p::S)), fn f(block(let S@0, impl p::S(local S@0), impl none(type error, type p::R))))", "5@2 Z, 4@9 none, 4@10 none")
}
