package macros_test

import (
	"slices"
	"testing"

	"recompile/api"
	"recompile/macros"
)

// here are the binds of the module of the definition: some is there, but no macro; two is found several times.
const here = "zero=p::zero,one=p::one,id=p::id,twice=p::twice,swap=p::swap,first=p::first,var=p::var,both=p::both,set=p::set,again=p::again,deep=p::deep,off=p::off,some=p::some,two=p::two,two=q::two,fun=p::fun,in=p::in,x=h::x"

// given are macros of the module p.
func given(t *testing.T) []api.Macro {
	t.Helper()
	b := binds("y=p::y,id=p::id,one=p::one,twice=p::twice,var=p::var,f=p::f,T=p::T,two=p::two,two=q::two,some=p::some,set=p::set")
	return prepared(t, b,
		"p::zero() = 0", "p::one(x) = x + 1", "p::id(x) = x", "p::twice(x) = x + x", "p::swap(x,y) = y - x", "p::first(x,x) = x",
		"p::var(x) = { let v = x; v = v + y; v }", "p::both(x) = { let x = x; x }", "p::set(x) = { x = 1; w = x; }",
		"p::again(x) = twice!(one!(x))", "p::deep(x) = var!({ let v = x; var!(v) })", "p::off() = id!(1) + nothing!() + some!(y) + two!(y) + id!()",
		"p::fun(f) = f(f, new T(f), y.f)", "p::in(x) = id!(x) + { let a = x; id!(a) }")
}

func TestExpand(t *testing.T) {
	for text, want := range map[string]string{
		// without a KExpand
		"1":                                   "int 1@0",
		"x":                                   "name x@0",
		"x + zero()":                          "binary +@0(name x@0, call zero@4)",
		"{ let v = x; v = 1; new one(v.id) }": "block @0(let v@2(name x@10), assign v@13(int 1@17), new one@20(dot id@28(name v@28)))",
		// with one
		"zero!()":                      "int 0@0",
		"  zero!()":                    "int 0@2",
		"1 + zero!()":                  "binary +@0(int 1@0, int 0@4)",
		"-zero!()":                     "unary -@0(int 0@1)",
		"id!(7)":                       "int 7@4",
		"id!(a)":                       "name a@4",
		"id!(x)":                       "name x@4",
		"id!(a + f(b))":                "binary +@4(name a@4, call f@8(name b@10))",
		"one!(5)":                      "binary +@0(int 5@5, int 1@0)",
		"2 * one!(-a)":                 "binary *@0(int 2@0, binary +@4(unary -@9(name a@10), int 1@4))",
		"twice!(f(a))":                 "binary +@0(call f@7(name a@9), call f@7(name a@9))",
		"swap!(1, 2)":                  "binary -@0(int 2@9, int 1@6)",
		"swap!(y, x)":                  "binary -@0(name x@9, name y@6)",
		"first!(1, 2)":                 "int 1@7",
		"fun!(1)":                      "call p::f@0(int 1@5, new p::T@0(int 1@5), dot f@0(name p::y@0))",
		"var!(5)":                      "block @0(let v#1@0(int 5@5), assign v#1@0(binary +@0(name v#1@0, name p::y@0)), name v#1@0)",
		"var!(v)":                      "block @0(let v#1@0(name v@5), assign v#1@0(binary +@0(name v#1@0, name p::y@0)), name v#1@0)",
		"both!(5)":                     "block @0(let x#1@0(name x#1@0), name x#1@0)",
		"both!(a)":                     "block @0(let x#1@0(name x#1@0), name x#1@0)",
		"set!(a)":                      "block @0(assign ::x@0(int 1@0), assign ::w@0(name a@5), unit @0)",
		"{ let v = 1; var!(v) }":       "block @0(let v@2(int 1@10), block @13(let v#1@13(name v@18), assign v#1@13(binary +@13(name v#1@13, name p::y@13)), name v#1@13))",
		"{ let x = 1; both!(x) }":      "block @0(let x@2(int 1@10), block @13(let x#1@13(name x#1@13), name x#1@13))",
		"id!({ let v = 1; v = 2; v })": "block @4(let v@6(int 1@14), assign v@17(int 2@21), name v@24)",
		// with several
		"zero!() + zero!()":                     "binary +@0(int 0@0, int 0@10)",
		"one!(1) + zero!() + one!(2)":           "binary +@0(binary +@0(binary +@0(int 1@5, int 1@0), int 0@10), binary +@20(int 2@25, int 1@20))",
		"both!(1) + both!(2) + var!(3)":         "binary +@0(binary +@0(block @0(let x#1@0(name x#1@0), name x#1@0), block @11(let x#2@11(name x#2@11), name x#2@11)), block @22(let v#3@22(int 3@27), assign v#3@22(binary +@22(name v#3@22, name p::y@22)), name v#3@22))",
		"{ print zero!(); both!(1); both!(2) }": "block @0(print @2(int 0@8), do @17(block @17(let x#2@17(name x#2@17), name x#2@17)), block @27(let x#3@27(name x#3@27), name x#3@27))",
		// in arguments: the macro around them is expanded first
		"one!(one!(1))":                         "binary +@0(binary +@5(int 1@10, int 1@5), int 1@0)",
		"id!(id!(id!(3)))":                      "int 3@12",
		"swap!(one!(1), zero!())":               "binary -@0(int 0@15, binary +@6(int 1@11, int 1@6))",
		"swap!(both!(1), both!(2))":             "binary -@0(block @16(let x#2@16(name x#2@16), name x#2@16), block @6(let x#3@6(name x#3@6), name x#3@6))",
		"twice!(both!(1))":                      "binary +@0(block @7(let x#2@7(name x#2@7), name x#2@7), block @7(let x#3@7(name x#3@7), name x#3@7))",
		"twice!(twice!(both!(1)))":              "binary +@0(binary +@7(block @14(let x#3@14(name x#3@14), name x#3@14), block @14(let x#4@14(name x#4@14), name x#4@14)), binary +@7(block @14(let x#6@14(name x#6@14), name x#6@14), block @14(let x#7@14(name x#7@14), name x#7@14)))",
		"first!(both!(1), both!(2)) + both!(3)": "binary +@0(block @7(let x#2@7(name x#2@7), name x#2@7), block @29(let x#3@29(name x#3@29), name x#3@29))",
		"f(id!(1), { id!(a) })":                 "call f@0(int 1@6, block @10(name a@16))",
		"var!(var!(1))":                         "block @0(let v#1@0(block @5(let v#2@5(int 1@10), assign v#2@5(binary +@5(name v#2@5, name p::y@5)), name v#2@5)), assign v#1@0(binary +@0(name v#1@0, name p::y@0)), name v#1@0)",
		// in Bodies
		"again!(5)":           "binary +@0(binary +@0(int 5@7, int 1@0), binary +@0(int 5@7, int 1@0))",
		"again!(both!(1))":    "binary +@0(binary +@0(block @7(let x#4@7(name x#4@7), name x#4@7), int 1@0), binary +@0(block @7(let x#6@7(name x#6@7), name x#6@7), int 1@0))",
		"in!(both!(1))":       "binary +@0(block @4(let x#3@4(name x#3@4), name x#3@4), block @0(let a#1@0(block @4(let x#4@4(name x#4@4), name x#4@4)), name a#1@0))",
		"deep!(v)":            "block @0(let v#2@0(block @0(let v#1@0(name v@6), block @0(let v#3@0(name v#1@0), assign v#3@0(binary +@0(name v#3@0, name p::y@0)), name v#3@0))), assign v#2@0(binary +@0(name v#2@0, name p::y@0)), name v#2@0)",
		"1 + in!(id!(a)) + 2": "binary +@0(binary +@0(int 1@0, binary +@4(name a@12, block @4(let a#1@4(name a@12), name a#1@4))), int 2@18)",
	} {
		got := macros.Expand(expr(t, text), binds(here), given(t))
		if show(got.Tree) != want || len(got.Diags) != 0 {
			t.Errorf("%s: %s, and %s", text, show(got.Tree), showDiags(got.Diags))
		}
		if needs := macros.Needs(expr(t, text), binds(here), given(t)); len(needs) != 0 {
			t.Errorf("%s needs %q", text, needs)
		}
	}
}

func TestExpandExample(t *testing.T) {
	got := macros.Expand(expr(t, "m!(1)"), binds("m=p::m"), prepared(t, binds("y=p::y"), "p::m(x) = x + y"))
	if show(got.Tree) != "binary +@0(int 1@3, name p::y@0)" || len(got.Diags) != 0 {
		t.Errorf("the example: %s, and %s", show(got.Tree), showDiags(got.Diags))
	}
}

// A definition of any kind is expanded.
func TestExpandOfDefinitions(t *testing.T) {
	for text, want := range map[string]string{
		"const c: int = one!(2);":                                 "3 c@0(15 int@9, binary +@15(int 2@20, int 1@15)) ",
		"fn f(a: int) { id!(a) }":                                 "4 f@0(10 @4, 12 @5(13 a@5(15 int@8)), 15 unit@13, block @13(name a@19)) ",
		"impl T for L { fn f() { zero!() } fn g() { none!(); } }": "7 T@0(10 @5, 15 L@11, 4 f@15(10 @19, 12 @20, 15 unit@22, block @22(int 0@24)), 4 g@34(10 @38, 12 @39, 15 unit@41, block @41(do @43(bad none@43), unit @52))) 4@43 none",
		"macro m(x) = one!(x);":                                   "8 m@0(12 @8(name x@8), binary +@13(name x@18, int 1@13)) ",
		"type id { one: zero }":                                   "5 id@0(10 @8, 12 @10(13 one@10(15 zero@15))) ",
	} {
		got := macros.Expand(item(t, text), binds(here), given(t))
		if show(got.Tree)+" "+showDiags(got.Diags) != want {
			t.Errorf("%s: %s, and %s", text, show(got.Tree), showDiags(got.Diags))
		}
	}
}

func TestExpandWithErrors(t *testing.T) {
	for _, c := range []struct{ text, want, diags string }{
		{"none!()", "bad none@0", "4@0 none"},
		{"two!()", "bad two@0", "5@0 two"},
		{"some!()", "bad some@0", "7@0 some"},
		{"id!()", "bad id@0", "6@0 id"},
		{"id!(1, 2)", "bad id@0", "6@0 id"},
		{"zero!(1)", "bad zero@0", "6@0 zero"},
		{"first!(1)", "bad first@0", "6@0 first"},
		{"first!(1, 2, 3)", "bad first@0", "6@0 first"},
		{"  none!(1) ", "bad none@2", "4@2 none"},
		{"1 + some!(2)", "binary +@0(int 1@0, bad some@4)", "7@4 some"},
		// a KBad has no Kids, so nothing in them is done
		{"none!(none!(), two!(), some!(), id!())", "bad none@0", "4@0 none"},
		{"two!(both!(1)) + both!(1)", "binary +@0(bad two@0, block @17(let x#1@17(name x#1@17), name x#1@17))", "5@0 two"},
		{"some!(none!())", "bad some@0", "7@0 some"},
		{"id!(none!(), two!())", "bad id@0", "6@0 id"},
		{"zero!(zero!())", "bad zero@0", "6@0 zero"},
		// a parameter that is not used
		{"first!(1, none!())", "int 1@7", ""},
		{"first!(none!(), 1)", "bad none@7", "4@7 none"},
		// and one that is used often
		{"twice!(none!())", "binary +@0(bad none@7, bad none@7)", "4@7 none, 4@7 none"},
		// the order is that in which they are done
		{"some!() + none!() + two!() + id!()", "binary +@0(binary +@0(binary +@0(bad some@0, bad none@10), bad two@20), bad id@29)", "7@0 some, 4@10 none, 5@20 two, 6@29 id"},
		{"id!() + two!() + none!() + some!()", "binary +@0(binary +@0(binary +@0(bad id@0, bad two@8), bad none@17), bad some@27)", "6@0 id, 5@8 two, 4@17 none, 7@27 some"},
		{"swap!(none!(), two!())", "binary -@0(bad two@15, bad none@6)", "5@15 two, 4@6 none"},
		{"{ some!(); { none!() } }", "block @0(do @2(bad some@2), block @11(bad none@13))", "7@2 some, 4@13 none"},
		{"f(some!(none!()), id!(two!()))", "call f@0(bad some@2, bad two@22)", "7@2 some, 5@22 two"},
		// an error is no expansion
		{"none!() + both!(1) + id!() + both!(2)", "binary +@0(binary +@0(binary +@0(bad none@0, block @10(let x#1@10(name x#1@10), name x#1@10)), bad id@21), block @29(let x#2@29(name x#2@29), name x#2@29))", "4@0 none, 6@21 id"},
		// in a Body, where the names are definitions
		{"off!()", "binary +@0(binary +@0(binary +@0(binary +@0(int 1@0, bad ::nothing@0), bad p::some@0), bad ::two@0), bad p::id@0)", "4@0 ::nothing, 7@0 p::some, 4@0 ::two, 6@0 p::id"},
		{"1 + off!() + none!()", "binary +@0(binary +@0(int 1@0, binary +@4(binary +@4(binary +@4(binary +@4(int 1@4, bad ::nothing@4), bad p::some@4), bad ::two@4), bad p::id@4)), bad none@13)", "4@4 ::nothing, 7@4 p::some, 4@4 ::two, 6@4 p::id, 4@13 none"},
	} {
		got := macros.Expand(expr(t, c.text), binds(here), given(t))
		if show(got.Tree) != c.want || showDiags(got.Diags) != c.diags {
			t.Errorf("%s: %s, and %s", c.text, show(got.Tree), showDiags(got.Diags))
		}
	}
}

// A Text without two colons is looked up; what begins with them means nothing; any other one is the definition.
func TestExpandFindsMacrosByTexts(t *testing.T) {
	l := []api.Macro{{Def: "", Body: tree(api.KInt, "1", 0)}, {Def: "::m", Body: tree(api.KInt, "2", 0)}, {Def: "p::m", Body: tree(api.KInt, "3", 0)}, {Def: "m", Body: tree(api.KInt, "4", 0)},
		{Def: "a:b", Body: tree(api.KInt, "5", 0)}, {Def: "p::", Body: tree(api.KInt, "6", 0)}, {Def: "p::q::m", Body: tree(api.KInt, "7", 0)}, {Def: "::", Body: tree(api.KInt, "8", 0)}, {Def: "a:::b", Body: tree(api.KInt, "9", 0)}}
	b := []api.Bind{{Name: "e", Def: ""}, {Name: "c", Def: "::m"}, {Name: "m", Def: "p::m"}, {Name: "p", Def: "m"}, {Name: "a:b", Def: "a:b"}, {Name: "::m", Def: "p::m"}, {Name: "::", Def: "p::m"}, {Name: "p::m", Def: "m"}, {Name: "q::m", Def: "m"},
		{Name: ":", Def: "p::"}, {Name: "", Def: "a:b"}, {Name: "t", Def: "p::m"}, {Name: "t", Def: "p::m"}, {Name: "u", Def: "p::m"}, {Name: "u", Def: "p::x"}, {Name: "v", Def: "q::m"}, {Name: "v", Def: "q::x"}, {Name: "v", Def: ""}, {Name: ":m:", Def: "p::m"}}
	for text, want := range map[string]string{
		"m": "int 3@8", "e": "int 1@8", "c": "int 2@8", "p": "int 4@8", "a:b": "int 5@8", ":": "int 6@8", "": "int 5@8", "t": "int 3@8", ":m:": "int 3@8",
		"p::m": "int 3@8", "p::": "int 6@8", "p::q::m": "int 7@8", "a:::b": "int 9@8",
		"::m": "4", "::": "4", "::p::m": "4", ":::": "4", "x": "4", "M": "4", "a": "4", "m:": "4", "p:m": "4", ":m": "4",
		"u": "5", "v": "5",
		"q::m": "7", "p::x": "7", "a::b": "7", "m::": "7", ":m::": "7",
	} {
		diags := ""
		if len(want) == 1 {
			diags = want + "@8 " + text
			want = "bad " + text + "@8"
		}
		got := macros.Expand(call(text, 8), b, l)
		if show(got.Tree) != want || showDiags(got.Diags) != diags {
			t.Errorf("%q: %s, and %s", text, show(got.Tree), showDiags(got.Diags))
		}
	}
}

// Of several macros with one Def the first one counts, whatever the others are.
func TestExpandTakesTheFirstMacro(t *testing.T) {
	l := prepared(t, nil, "p::m() = 1", "p::n() = 2", "p::m() = 3", "p::n(x) = x", "p::m(x) = x", "p::o(x) = 5", "p::o() = 6")
	for text, want := range map[string]string{"m!()": "int 1@0", "n!()": "int 2@0", "o!()": "bad o@0", "m!(7)": "bad m@0", "n!(7)": "bad n@0", "o!(7)": "int 5@0"} {
		if got := macros.Expand(expr(t, text), binds("m=p::m,n=p::n,o=p::o"), l); show(got.Tree) != want || len(got.Diags) == 1 != (want[0] == 'b') {
			t.Errorf("%s: %s, and %s", text, show(got.Tree), showDiags(got.Diags))
		}
	}
	slices.Reverse(l)
	for text, want := range map[string]string{"m!()": "bad m@0", "n!()": "bad n@0", "o!()": "int 6@0", "m!(7)": "int 7@3", "n!(7)": "int 7@3", "o!(7)": "bad o@0"} {
		if got := macros.Expand(expr(t, text), binds("m=p::m,n=p::n,o=p::o"), l); show(got.Tree) != want || len(got.Diags) == 1 != (want[0] == 'b') {
			t.Errorf("%s in the other order: %s, and %s", text, show(got.Tree), showDiags(got.Diags))
		}
	}
}

// Macros that Prepare does not return: a node of a Body that is replaced takes its Kids with it, and only a KName is one.
func TestExpandOfOtherMacros(t *testing.T) {
	kinds := []int{0, api.KInt, api.KCall, api.KNew, api.KDot, api.KLocal, api.KGlobal, api.KBad, api.KUnit, api.KParam, api.KArg, api.KMacro, -1, 99}
	for _, kind := range kinds {
		m := api.Macro{Def: "p::m", Params: []string{"x", "y", "x"}, Body: tree(kind, "x", 5, tree(kind, "v", 6), tree(api.KName, "x", 7, tree(api.KLet, "v", 8)), name("y"), name("v"), tree(api.KAssign, "x", 1), tree(api.KAssign, "v", 1), tree(kind, "y", 2))}
		got := macros.Expand(call("p::m", 9, tree(kind, "a", 1, name("x")), name("y"), name("z")), nil, []api.Macro{m})
		k := word(kind)
		if want := k + " x@9(" + k + " v@9, " + k + " a@1(name x@0), name y@0, name v#1@9, assign x@9, assign v#1@9, " + k + " y@9)"; show(got.Tree) != want || len(got.Diags) != 0 {
			t.Errorf("a %s: %s, and %s", k, show(got.Tree), showDiags(got.Diags))
		}
	}
}

// Texts of KLets in a Body hide parameters, wherever they are in it.
func TestAParameterThatAKLetHasIsTheVariable(t *testing.T) {
	for text, want := range map[string]string{
		"(x) = x + { let x = 1; x } + x":                  "binary +@2(binary +@2(name x#1@2, block @2(let x#1@2(int 1@2), name x#1@2)), name x#1@2)",
		"(x,y) = { let y = x; y = y + x; }":               "block @2(let y#1@2(name a@5), assign y#1@2(binary +@2(name y#1@2, name a@5)), unit @2)",
		"(x,y) = f({ let x = 1; }, x, y)":                 "call ::f@2(block @2(let x#1@2(int 1@2), unit @2), name x#1@2, name b@8)",
		"(x,x) = { let x = x; x }":                        "block @2(let x#1@2(name x#1@2), name x#1@2)",
		"(y,x) = x + { let z = { let y = 1; y }; y + z }": "binary +@2(name b@8, block @2(let z#1@2(block @2(let y#1@2(int 1@2), name y#1@2)), binary +@2(name y#1@2, name z#1@2)))",
	} {
		in := "m!(a, b)"
		if text[2] == ')' {
			in = "m!(a)"
		}
		got := macros.Expand(expr(t, "  "+in), binds("m=p::m"), prepared(t, nil, "p::m"+text))
		if show(got.Tree) != want || len(got.Diags) != 0 {
			t.Errorf("%s: %s, and %s", text, show(got.Tree), showDiags(got.Diags))
		}
	}
}
