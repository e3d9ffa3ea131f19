package resolve_test

import (
	"strings"
	"testing"

	"recompile/api"
	"recompile/shape"
)

func TestVariablesOfFunctions(t *testing.T) {
	for text, c := range map[string][2]string{
		"fn f(x: int) -> int { let x = x; x }":            {"fn f(params, args(arg x@0(type int)), type int, block(let x@1(local x@0), local x@1))", ""},
		"fn f(a: int, b: int) { a = b; }":                 {"fn f(params, args(arg a@0(type int), arg b@1(type int)), type unit, block(assign a@0(local b@1), unit))", ""},
		"fn f(a: int, a: bool) { a }":                     {"fn f(params, args(arg a@0(type int), arg a@1(type bool)), type unit, block(local a@1))", ""},
		"fn f(f: R, f2: Z) { f(f2) }":                     {"fn f(params, args(arg f@0(type p::R), arg f2@1(type error)), type unit, block(bad f(local f2@1)))", "5@6 Z, 4@9 f"},
		"const c: int = { let a = 1; let b = a; a + b };": {"const c(type int, block(let a@0(int 1), let b@1(local a@0), binary +(local a@0, local b@1)))", ""},
		"const c: int = c;":                               {"const c(type int, bad c)", "4@2 c"},
		"impl S for int { fn m(x: int) { let y = x; y } fn n(y: int) { x; y } }": {
			"impl p::S(params, type int, fn m(params, args(arg x@0(type int)), type unit, block(let y@1(local x@0), local y@1)), fn n(params, args(arg y@2(type int)), type unit, block(do(bad x), local y@2)))", "4@21 x",
		},
		"trait A { fn m(x: int) -> int; }": {"trait A(supers, sig m(args(arg x(type int)), type int))", ""},
		"type A { x: int, x: bool }":       {"record A(params, args(arg x(type int), arg x(type bool)))", ""},
	} {
		check(t, item(t, text), binds(known), c[0], c[1])
	}
}

// Each block is written with what its names become; names are found only as variables.
func TestVariablesOfBlocks(t *testing.T) {
	for text, c := range map[string][2]string{
		"{ x }":                       {"block(bad x)", "4@1 x"},
		"{ let x = 1; x }":            {"block(let x@0(int 1), local x@0)", ""},
		"{ x; let x = 1; x }":         {"block(do(bad x), let x@0(int 1), local x@0)", "4@2 x"},
		"{ let x = x; x }":            {"block(let x@0(bad x), local x@0)", "4@2 x"},
		"{ let x = 1; let x = x; x }": {"block(let x@0(int 1), let x@1(local x@0), local x@1)", ""},
		"{ let x = 1; let y = 2; let x = y; let y = x; x + y }": {"block(let x@0(int 1), let y@1(int 2), let x@2(local y@1), let y@3(local x@2), binary +(local x@2, local y@3))", ""},
		"{ let x = 1; { x } }":                               {"block(let x@0(int 1), block(local x@0))", ""},
		"{ { let x = 1; x }; x }":                            {"block(do(block(let x@0(int 1), local x@0)), bad x)", "4@6 x"},
		"{ let x = 1; { let x = 2; x }; x }":                 {"block(let x@0(int 1), do(block(let x@1(int 2), local x@1)), local x@0)", ""},
		"{ let x = 1; { x; let x = x; x }; x }":              {"block(let x@0(int 1), do(block(do(local x@0), let x@1(local x@0), local x@1)), local x@0)", ""},
		"{ { let x = 1; }; { let x = 2; x } }":               {"block(do(block(let x@0(int 1), unit)), block(let x@1(int 2), local x@1))", ""},
		"{ { let x = 1; }; { x } }":                          {"block(do(block(let x@0(int 1), unit)), block(bad x))", "4@7 x"},
		"{ let x = { let y = 1; y }; x + y }":                {"block(let x@0(block(let y@1(int 1), local y@1)), binary +(local x@0, bad y))", "4@8 y"},
		"{ let x = { let x = 1; x }; x }":                    {"block(let x@0(block(let x@1(int 1), local x@1)), local x@0)", ""},
		"{ let x = { let y = { let z = 1; z }; y }; x }":     {"block(let x@0(block(let y@1(block(let z@2(int 1), local z@2)), local y@1)), local x@0)", ""},
		"{ let x = 1; if x { let x = 2; x } else { x } }":    {"block(let x@0(int 1), if(local x@0, block(let x@1(int 2), local x@1), block(local x@0)))", ""},
		"{ let x = 1; while x { let y = x; x = y; } x + y }": {"block(let x@0(int 1), while(local x@0, block(let y@1(local x@0), assign x@0(local y@1), unit)), binary +(local x@0, bad y))", "4@13 y"},
		"{ x = 1; let x = 2; x = 3; }":                       {"block(do(int 1), let x@0(int 2), assign x@0(int 3), unit)", "4@1 x"},
		"{ let x = 1; { x = x; let x = x; x = x; } x = x; }": {
			"block(let x@0(int 1), do(block(assign x@0(local x@0), let x@1(local x@0), assign x@1(local x@1), unit)), assign x@0(local x@0), unit)", "",
		},
		"{ let x = 1; let y = 2; f(x, new T(y, -x)).y }": {"block(let x@0(int 1), let y@1(int 2), dot y(bad f(local x@0, bad T(local y@1, unary -(local x@0)))))", "4@6 f, 4@8 T"},
		"{ let x = 1; print x; x; x.x }":                 {"block(let x@0(int 1), print(local x@0), do(local x@0), dot x(local x@0))", ""},
	} {
		text = strings.Replace(text, "} x = x", "}; x = x", 1)
		check(t, expr(t, text), nil, c[0], c[1])
	}
}

// Variables hide definitions, where they are known.
func TestVariablesHideDefinitions(t *testing.T) {
	for text, want := range map[string]string{
		"{ R; let R = R; R }":           "block(do(global p::R), let R@0(global p::R), local R@0)",
		"{ { let R = 1; R }; R }":       "block(do(block(let R@0(int 1), local R@0)), global p::R)",
		"{ let Z = 1; Z }":              "block(let Z@0(int 1), local Z@0)",
		"{ let R = 1; R(R, new R(R)) }": "block(let R@0(int 1), call p::R(local R@0, new p::R(local R@0)))",
	} {
		check(t, expr(t, text), binds(known), want, "")
	}
}

func TestNumbersOfBinders(t *testing.T) {
	// They go on beyond 9, and through functions and blocks in the order of the nodes.
	text := "impl S for int { fn m(a: int, b: int) { let c = { let d = 1; d }; c } fn n(e: int) { { let g = 1; g }; { let h = 2; h } } fn o(i: int, j: int, k: int, l: int) { let m = l; m + b } }"
	want := "impl p::S(params, type int, fn m(params, args(arg a@0(type int), arg b@1(type int)), type unit, block(let c@2(block(let d@3(int 1), local d@3)), local c@2)), " +
		"fn n(params, args(arg e@4(type int)), type unit, block(do(block(let g@5(int 1), local g@5)), block(let h@6(int 2), local h@6))), " +
		"fn o(params, args(arg i@7(type int), arg j@8(type int), arg k@9(type int), arg l@10(type int)), type unit, block(let m@11(local l@10), binary +(local m@11, bad b))))"
	check(t, item(t, text), binds(known), want, "4@51 b")
	// A binder comes before those below it.
	in := fn(tree(api.KArgs, "", 0, tree(api.KArg, "a", 0, let("b", let("c"))), tree(api.KArg, "d", 0)), let("e", fn(args("g"))), block(name("a"), name("d")))
	check(t, shape.Number(in), nil, "fn f(args(arg a@0(let b@1(let c@2)), arg d@3), let e@4(fn f(args(arg g@5))), block(local a@0, local d@3))", "")
}

func TestTextsOfBinders(t *testing.T) {
	for _, text := range []string{"", "@", "x@0", "p::x", "::x", "x#1", "a b", "\xff\x00", "Self", "int"} {
		in := numbered(api.KFn, "f", args(text, "y"), block(name(text), tree(api.KAssign, text, 0), let(text, name(text)), name(text), name("y")))
		v0, v2 := text+"@0", text+"@2"
		check(t, in, binds(known), "fn f(args(arg "+v0+", arg y@1), block(local "+v0+", assign "+v0+", let "+v2+"(local "+v0+"), local "+v2+", local y@1))", "")
	}
	in := block(let("x"), let("X"), let("x@0"), let("xy"), let("x@2"), name("x"), name("X"), name("x@0"), name("xy"), name("x@2"), name("x@1"))
	check(t, shape.Number(in), nil, "block(let x@0, let X@1, let x@0@2, let xy@3, let x@2@4, local x@0, local X@1, local x@0@2, local xy@3, local x@2@4, bad x@1)", "4@11 x@1")
}

// A KArg of a KFn is known in the KBlock Kids that come after it, and nowhere else.
func TestKArgs(t *testing.T) {
	x, y := name("x"), name("y")
	arg := func(text string, kids ...api.Tree) api.Tree { return tree(api.KArg, text, 0, kids...) }
	list := func(kids ...api.Tree) api.Tree { return tree(api.KArgs, "", 0, kids...) }
	for _, c := range []struct {
		in   []api.Tree
		want string
	}{
		{[]api.Tree{block(x), args("x"), block(x)}, "block(bad x), args(arg x@0), block(local x@0)"},
		{[]api.Tree{args("x"), block(x), block(x)}, "args(arg x@0), block(local x@0), block(local x@0)"},
		{[]api.Tree{args("x"), block(let("x"), let("y"), x), block(x, y)}, "args(arg x@0), block(let x@1, let y@2, local x@1), block(local x@0, bad y)"},
		{[]api.Tree{args("x"), block(x, y), args("y", "x"), block(x, y)}, "args(arg x@0), block(local x@0, bad y), args(arg y@1, arg x@2), block(local x@2, local y@1)"},
		{[]api.Tree{args("x"), args(), args("y"), block(x, y)}, "args(arg x@0), args, args(arg y@1), block(local x@0, local y@1)"},
		{[]api.Tree{args("x", "y", "x"), block(x, y)}, "args(arg x@0, arg y@1, arg x@2), block(local x@2, local y@1)"},
		{[]api.Tree{args("x"), x, let("z", x), tree(api.KIf, "", 0, block(x)), block(x)}, "args(arg x@0), bad x, let z@1(bad x), if(block(bad x)), block(local x@0)"},
		{[]api.Tree{args("x"), fn(block(x)), block(x)}, "args(arg x@0), fn f(block(bad x)), block(local x@0)"},
		{[]api.Tree{list(arg("x", x), arg("y", x, block(x))), block(x, y)}, "args(arg x@0(bad x), arg y@1(bad x, block(bad x))), block(local x@0, local y@1)"},
		{[]api.Tree{list(arg("x"), x, let("y"), arg("z")), block(x, y, name("z"))}, "args(arg x@0, bad x, let y@1, arg z@2), block(local x@0, bad y, local z@2)"},
		{[]api.Tree{args("x"), block(let("a", x), block(x, let("x", x), x), x)}, "args(arg x@0), block(let a@1(local x@0), block(local x@0, let x@2(local x@0), local x@2), local x@0)"},
		// these are no KArg Kids of a KArgs Kid
		{[]api.Tree{arg("x"), block(x)}, "arg x, block(bad x)"},
		{[]api.Tree{list(list(arg("x"))), block(x)}, "args(args(arg x)), block(bad x)"},
		{[]api.Tree{list(arg("y", arg("x"))), block(x)}, "args(arg y@0(arg x)), block(bad x)"},
		{[]api.Tree{tree(api.KParams, "", 0, arg("x")), block(x)}, "params(arg x), block(bad x)"},
		{[]api.Tree{block(args("x"), x), block(x)}, "block(args(arg x), bad x), block(bad x)"},
		{[]api.Tree{list(tree(api.KParam, "x", 0), let("x")), block(x)}, "args(param x, let x@0), block(bad x)"},
	} {
		in := numbered(api.KFn, "f", c.in...)
		check(t, in, nil, "fn f("+c.want+")", badNames(in, c.want))
	}
	for _, kind := range []int{api.KType, api.KTrait, api.KSig, api.KMacro + 100, api.KBlock, api.KConst, api.KImpl, api.KModule, 0} {
		in := numbered(kind, "R", args("x"), block(x))
		want := word(kind) + " " + map[bool]string{true: "p::R", false: "R"}[kind == api.KImpl] + "(args(arg x), block(bad x))"
		check(t, in, binds(known), want, "4@4 x")
	}
	check(t, numbered(api.KArgs, "", arg("x"), block(x)), nil, "args(arg x, block(bad x))", "4@3 x")
	check(t, numbered(api.KArg, "x", block(x)), nil, "arg x(block(bad x))", "4@2 x")
}

// badNames returns the diagnostics of the KNames that are a KBad in the written result.
func badNames(in api.Tree, want string) string {
	var names, out []string
	for _, part := range strings.FieldsFunc(want, func(r rune) bool { return r == '(' || r == ')' || r == ',' }) {
		if part = strings.TrimSpace(part); part != "" {
			names = append(names, part)
		}
	}
	for i, n := range flat(in, 0, -1)[1:] {
		if n.kind == api.KName && strings.HasPrefix(names[i], "bad ") {
			out = append(out, showDiags([]api.Diag{{Code: api.CodeUnresolved, Node: i + 1, Text: n.text}}))
		}
	}
	return strings.Join(out, ", ")
}

func TestFunctionsWithinFunctions(t *testing.T) {
	x, y, z := name("x"), name("y"), name("z")
	for _, c := range []struct {
		in          api.Tree
		want, diags string
	}{
		{fn(args("x"), block(fn(args("y"), block(x, y)), y)), "fn f(args(arg x@0), block(fn f(args(arg y@1), block(local x@0, local y@1)), bad y))", "4@10 y"},
		{fn(args("x"), block(fn(args("x"), block(x)), x)), "fn f(args(arg x@0), block(fn f(args(arg x@1), block(local x@1)), local x@0))", ""},
		{fn(args("x"), block(let("z"), fn(args("y"), block(let("z", z), z)), z)), "fn f(args(arg x@0), block(let z@1, fn f(args(arg y@2), block(let z@3(local z@1), local z@3)), local z@1))", ""},
		{fn(args("x"), block(let("y"), fn(args("x"), block(let("x"), x, y), block(x, y)), x, let("x"), x)),
			"fn f(args(arg x@0), block(let y@1, fn f(args(arg x@2), block(let x@3, local x@3, local y@1), block(local x@2, local y@1)), local x@0, let x@4, local x@4))", ""},
		{fn(args("x"), block(fn(args("y"), x, y, block(z)), let("z"), fn(block(z), args("z"), block(z)))),
			"fn f(args(arg x@0), block(fn f(args(arg y@1), local x@0, bad y, block(bad z)), let z@2, fn f(block(local z@2), args(arg z@3), block(local z@3))))", "4@8 y, 4@10 z"},
		{fn(args("x"), block(let("y", fn(args("y"), block(y))), fn(args(), block(y)))), "fn f(args(arg x@0), block(let y@1(fn f(args(arg y@2), block(local y@2))), fn f(args, block(local y@1))))", ""},
	} {
		check(t, shape.Number(c.in), nil, c.want, c.diags)
	}
}

// A KLet is known in the Kids of its KBlock behind it; elsewhere it is a binder that is known nowhere.
func TestKLetsAnywhere(t *testing.T) {
	x := name("x")
	for _, c := range []struct {
		in          api.Tree
		want, diags string
	}{
		{let("x"), "let x@0", ""},
		{let("x", x, let("x", x), x), "let x@0(bad x, let x@1(bad x), bad x)", "4@1 x, 4@3 x, 4@4 x"},
		{block(let("x", x, block(x)), block(x, block(x))), "block(let x@0(bad x, block(bad x)), block(local x@0, block(local x@0)))", "4@2 x, 4@4 x"},
		{block(tree(api.KDo, "", 0, let("x"), x), x), "block(do(let x@0, bad x), bad x)", "4@3 x, 4@4 x"},
		{block(tree(api.KIf, "", 0, let("x"), block(let("x"), x), block(x)), x), "block(if(let x@0, block(let x@1, local x@1), block(bad x)), bad x)", "4@7 x, 4@8 x"},
		{block(let("x", let("x"), x), x), "block(let x@0(let x@1, bad x), local x@0)", "4@3 x"},
		{tree(api.KIf, "", 0, let("x"), x, block(x)), "if(let x@0, bad x, block(bad x))", "4@2 x, 4@4 x"},
		{fn(args(), let("x"), x, block(x)), "fn f(args, let x@0, bad x, block(bad x))", "4@3 x, 4@5 x"},
		{tree(api.KWhile, "", 0, let("x"), block(x)), "while(let x@0, block(bad x))", "4@3 x"},
		{tree(api.KModule, "", 0, let("x"), x), "module(let x@0, bad x)", "4@2 x"},
		{block(block(let("x")), x), "block(block(let x@0), bad x)", "4@3 x"},
		{block(let("x"), let("x"), let("x")), "block(let x@0, let x@1, let x@2)", ""},
		{block(x, let("x")), "block(bad x, let x@0)", "4@1 x"},
		{block(let("x"), tree(api.KArg, "x", 0, x), args("x"), x), "block(let x@0, arg x(local x@0), args(arg x), local x@0)", ""},
		{block(let("x"), tree(api.KTrait, "t", 0, tree(api.KSig, "m", 0, tree(api.KArgs, "", 0, tree(api.KArg, "x", 0, x)), typeOf("x"), x, x))), "block(let x@0, trait t(sig m(args(arg x(local x@0)), type error, local x@0, name x)))", "4@7 x, 4@9 x"},
	} {
		check(t, shape.Number(c.in), nil, c.want, c.diags)
	}
}

func TestAssigns(t *testing.T) {
	assign := func(text string, kids ...api.Tree) api.Tree { return tree(api.KAssign, text, 0, kids...) }
	x := name("x")
	for _, c := range []struct {
		in          api.Tree
		want, diags string
	}{
		{assign("x", x), "do(bad x)", "4@0 x, 4@1 x"},
		{assign("R", name("R")), "do(global p::R)", "4@0 R"},
		{assign("Z"), "do", "4@0 Z"},
		{assign("::x", x), "do(bad x)", "4@0 ::x, 4@1 x"},
		{assign("p::R"), "do", "4@0 p::R"},
		{assign(""), "do", "4@0 "},
		{assign("x", x, typeOf("R"), block(let("x"), assign("x"))), "do(bad x, type p::R, block(let x@0, assign x@0))", "4@0 x, 4@1 x"},
		{block(let("x"), assign("x", x)), "block(let x@0, assign x@0(local x@0))", ""},
		{block(let("x"), assign("x", x, assign("y", x), assign("x"))), "block(let x@0, assign x@0(local x@0, do(local x@0), assign x@0))", "4@4 y"},
		{block(let("x", assign("x")), assign("x")), "block(let x@0(do), assign x@0)", "4@2 x"},
		{block(let("R"), assign("R"), let("R"), assign("R", name("R"))), "block(let R@0, assign R@0, let R@1, assign R@1(local R@1))", ""},
		{fn(args("x"), assign("x"), block(assign("x", assign("X")))), "fn f(args(arg x@0), do, block(assign x@0(do)))", "4@3 x, 4@6 X"},
	} {
		check(t, shape.Number(c.in), binds(known), c.want, c.diags)
	}
}
