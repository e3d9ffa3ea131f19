package resolve_test

import (
	"strconv"
	"testing"

	"recompile/api"
	"recompile/resolve"
	"recompile/shape"
)

// textDef is the Text of a name with the definition that it means, or the code if there is none.
type textDef struct{ text, def, code string }

// definitions are names that are no variables.
func definitions() []textDef {
	return []textDef{
		{"R", "p::R", ""}, {"L", "q::List", ""}, {"same", "p::same", ""}, {"T", "p::T", ""}, {"odd", "a b", ""}, {"empty", "", ""}, {"var", "x@0", ""},
		// with two colons it is this definition, whatever Lookup finds
		{"p::R", "p::R", ""}, {"p::none", "p::none", ""}, {"p::f::g", "p::f::g", ""}, {"a::b", "a::b", ""}, {"p::", "p::", ""}, {"x::y", "x::y", ""}, {":a::b", ":a::b", ""}, {"p:::x", "p:::x", ""},
		// colons that do not stand together
		{"a:b", "c", ""}, {":R", "", "4"}, {"p:R", "", "4"}, {":a:b:", "", "4"}, {":", "", "4"},
		// two colons at the beginning
		{"::R", "", "4"}, {"::", "", "4"}, {"::odd", "", "4"}, {":::", "", "4"}, {"::p::R", "", "4"},
		{"none", "", "4"}, {"", "", "4"}, {"r", "", "4"}, {"int", "", "4"}, {"true", "", "4"}, {"R@0", "", "4"}, {"R ", "", "4"},
		{"Z", "", "5"}, {"U", "", "5"},
	}
}

func definitionBinds() []api.Bind {
	return append(oddBinds(), api.Bind{Name: "var", Def: "x@0"}, api.Bind{Name: "a:b", Def: "c"}, api.Bind{Name: "::R", Def: "p::R"}, api.Bind{Name: "::", Def: "p::R"})
}

// withText writes a node with a Text and what is below it.
func withText(kind int, text, below string) string {
	s := word(kind)
	if text != "" {
		s += " " + text
	}
	if below != "" {
		s += "(" + below + ")"
	}
	return s
}

func TestNamesOfDefinitions(t *testing.T) {
	for _, c := range definitions() {
		for kind, becomes := range map[int]int{api.KName: api.KGlobal, api.KCall: api.KCall, api.KNew: api.KNew} {
			text, diags := c.def, ""
			if c.code != "" {
				text, becomes, diags = c.text, api.KBad, c.code+"@0 "+c.text
			}
			check(t, numbered(kind, c.text), definitionBinds(), withText(becomes, text, ""), diags)
			// The Kids are resolved, whatever the node becomes, and what is wrong with the node comes first.
			in := numbered(kind, c.text, name("R"), name("none"), tree(api.KCall, "Z", 0, typeOf("R")), block(let("x"), name("x")))
			if diags != "" {
				diags += ", "
			}
			check(t, in, definitionBinds(), withText(becomes, text, "global p::R, bad none, bad Z(type p::R), block(let x@0, local x@0)"), diags+"4@2 none, 5@3 Z")
		}
	}
}

// A KName is a variable wherever one is known, whatever its Text is; a KCall and a KNew never are.
func TestNamesOfVariables(t *testing.T) {
	for _, c := range definitions() {
		in := shape.Number(block(let(c.text), name(c.text), tree(api.KName, c.text, 0, name(c.text))))
		v := c.text + "@0"
		check(t, in, definitionBinds(), "block(let "+v+", local "+v+", local "+v+"(local "+v+"))", "")
		for _, kind := range []int{api.KCall, api.KNew} {
			in := numbered(api.KFn, "f", args(c.text), block(tree(kind, c.text, 0, name(c.text))))
			becomes, text, diags := kind, c.def, ""
			if c.code != "" {
				becomes, text, diags = api.KBad, c.text, c.code+"@4 "+c.text
			}
			check(t, in, definitionBinds(), "fn f(args(arg "+v+"), block("+withText(becomes, text, "local "+v)+"))", diags)
		}
	}
}

func TestNamesInPrograms(t *testing.T) {
	for text, c := range map[string][2]string{
		"R":                           {"global p::R", ""},
		"R + none * Z":                {"binary +(global p::R, binary *(bad none, bad Z))", "4@3 none, 5@4 Z"},
		"R(L(R), none(none), Z())":    {"call p::R(call q::List(global p::R), bad none(bad none), bad Z)", "4@3 none, 4@4 none, 5@5 Z"},
		"new R(new none(R), new Z())": {"new p::R(bad none(global p::R), bad Z)", "4@1 none, 5@3 Z"},
		"R.R.none":                    {"dot none(dot R(global p::R))", ""},
		"if none { none } else { Z }": {"if(bad none, block(bad none), block(bad Z))", "4@1 none, 4@3 none, 5@5 Z"},
		"{ print none; Z; while R { none() ; } x = none; }": {"block(print(bad none), do(bad Z), while(global p::R, block(do(bad none), unit)), do(bad none), unit)", "4@2 none, 5@4 Z, 4@9 none, 4@11 x, 4@12 none"},
		"none!(none, R)": {"bad none(bad none, global p::R)", "6@0 none, 4@1 none"},
		"-R":             {"unary -(global p::R)", ""},
	} {
		check(t, expr(t, text), binds(known), c[0], c[1])
	}
}

// A KExpand is always a KBad with CodeMacro, whatever its Text means.
func TestKExpands(t *testing.T) {
	for _, c := range definitions() {
		check(t, numbered(api.KExpand, c.text), definitionBinds(), withText(api.KBad, c.text, ""), "6@0 "+c.text)
		in := shape.Number(block(let(c.text), tree(api.KExpand, c.text, 0, name(c.text), tree(api.KExpand, "R", 0, typeOf("none")))))
		v := c.text + "@0"
		check(t, in, definitionBinds(), "block(let "+v+", "+withText(api.KBad, c.text, "local "+v+", bad R(type error)")+")", "6@2 "+c.text+", 6@4 R, 4@5 none")
	}
}

// A KMacro stays as it is, also within other trees: there is no name and no binder in it.
func TestKMacros(t *testing.T) {
	for _, text := range []string{
		"macro m() = 1;", "macro m(x) = x;", "macro m(x, y) = none(x, y, z) + none!(R);", "macro R(R) = { let x = R; x = x; new R(x) };", "macro m() = { let x = Z; { x = Z; } };",
	} {
		in := item(t, text)
		check(t, in, binds(known), show(in), "")
		within := numbered(api.KModule, "", in, name("none"), in)
		check(t, within, binds(known), "module("+show(in)+", bad none, "+show(in)+")", showDiags([]api.Diag{{Code: api.CodeUnresolved, Node: shape.Count(in) + 1, Text: "none"}}))
	}
	all := []api.Tree{
		params("T"), args("x"), typeOf("T"), typeOf("none"), name("x"), let("x"), tree(api.KAssign, "x", 0), tree(api.KAssign, "y", 0), tree(api.KCall, "R", 0), tree(api.KNew, "none", 0),
		tree(api.KExpand, "x", 0), tree(api.KImpl, "S", 0), tree(api.KSupers, "", 0, name("S")), tree(api.KSig, "m", 0, typeOf("Self"), name("S")), fn(args("x"), block(let("y"), name("x"))), tree(api.KMacro, "", 0, name("x")),
	}
	in := numbered(api.KMacro, "R", all...)
	check(t, in, binds(known), show(in), "")
	check(t, numbered(api.KParams, "", in, tree(api.KParam, "T", 0), typeOf("T")), binds(known), "params("+show(in)+", param T, type p::T)", "")
	inner := tree(api.KMacro, "m", 0, let("x"), fn(args("x"), block(name("y"))))
	check(t, numbered(api.KFn, "f", args("x"), block(let("y"), inner, name("x"), let("x"), name("x"))), nil, "fn f(args(arg x@0), block(let y@1, "+show(inner)+", local x@0, let x@2, local x@2))", "")
}

// Nothing below a type that is not found is looked at: there is no binder in it.
func TestNoBindersBelowATypeThatIsNotFound(t *testing.T) {
	inner := fn(args("a"), block(let("b"), name("none")))
	in := shape.Number(block(let("x"), typeOf("R", inner), let("x"), name("x")))
	check(t, in, binds(known), "block(let x@0, type p::R(fn f(args(arg a@1), block(let b@2, bad none))), let x@3, local x@3)", "4@8 none")
	in.Kids[1].Text = "none"
	check(t, in, binds(known), "block(let x@0, type error, let x@1, local x@1)", "4@2 none")
	in.Kids[1].Text = "Z"
	check(t, in, binds(known), "block(let x@0, type error, let x@1, local x@1)", "5@2 Z")
}

// All other kinds stay as they are, with any Text, and what is below them is resolved.
func TestOtherKinds(t *testing.T) {
	changed := map[int]bool{api.KMacro: true, api.KTypeOf: true, api.KName: true, api.KImpl: true, api.KLet: true, api.KAssign: true, api.KCall: true, api.KNew: true, api.KExpand: true}
	for kind := -2; kind <= 45; kind++ {
		if changed[kind] {
			continue
		}
		for _, text := range []string{"R", "none", "Z", "x", "::R", ""} {
			in := shape.Number(block(let("x"), tree(kind, text, 0, name("x"), name("none"), block(name("R")), tree(kind, text, 0))))
			got := resolve.Resolve(in, binds(known))
			out := got.Tree.Kids[1]
			first, second := "local x@0", "bad none"
			diags := "4@4 none"
			if kind == api.KSupers || kind == api.KParam {
				first, second, diags = "name x", "name none", "4@3 x, 4@4 none"
			}
			want := withText(kind, text, first+", "+second+", block(global p::R), "+withText(kind, text, ""))
			if show(out) != want || showDiags(got.Diags) != diags || !hasPlacesOf(got.Tree, in) {
				t.Errorf("%s %q: %s, with %s", word(kind), text, show(out), showDiags(got.Diags))
			}
		}
	}
	// also at the root
	for kind := -2; kind <= 45; kind++ {
		if !changed[kind] {
			check(t, tree(kind, "R", 7), binds(known), word(kind)+" R", "")
		}
	}
	check(t, api.Tree{}, nil, "0", "")
	for _, n := range []int{-1 << 63, 1<<63 - 1} {
		check(t, tree(n, "R", n), binds(known), strconv.Itoa(n)+" R", "")
		check(t, tree(api.KName, "none", n), nil, "bad none", "4@"+strconv.Itoa(n)+" none")
	}
}

// Diagnostics are in the order of the nodes, whatever their places and codes are.
func TestOrderOfDiagnostics(t *testing.T) {
	text := "impl<A: Z, B: none> none for L<Z, none> { fn m(a: none, b: Z) -> none { let a = none; c = Z; b = none(none, Z()); new Z(x!(none)) } }"
	want := "4@0 none, 5@3 Z, 4@5 none, 5@7 Z, 4@8 none, 4@13 none, 5@15 Z, 4@16 none, 4@19 none, 4@20 c, 5@21 Z, 4@23 none, 4@24 none, 5@25 Z, 5@26 Z, 6@27 x, 4@28 none"
	in := item(t, text)
	if got := resolve.Resolve(in, binds(known)); showDiags(got.Diags) != want {
		t.Errorf("%s", showDiags(got.Diags))
	}
	at := 100
	var down func(*api.Tree)
	down = func(t *api.Tree) {
		t.At = at
		at -= 3
		for i := range t.Kids {
			down(&t.Kids[i])
		}
	}
	down(&in)
	check(t, in, binds(known), "impl none(params(param A(name Z), param B(name none)), type q::List(type error, type error), fn m(params, args(arg a@0(type error), arg b@1(type error)), type error, "+
		"block(let a@2(bad none), do(bad Z), assign b@1(bad none(bad none, bad Z)), bad Z(bad x(bad none)))))",
		"4@100 none, 5@91 Z, 4@85 none, 5@79 Z, 4@76 none, 4@61 none, 5@55 Z, 4@52 none, 4@43 none, 4@40 c, 5@37 Z, 4@31 none, 4@28 none, 5@25 Z, 5@22 Z, 6@19 x, 4@16 none")
}
