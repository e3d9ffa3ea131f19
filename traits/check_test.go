package traits_test

import (
	"testing"

	"recompile/api"
	"recompile/traits"
)

func checkCheck(t *testing.T, in api.Tree, self string, l []api.Known, want string) {
	t.Helper()
	if got := showDiags(traits.Check(in, of(self), l)); got != want {
		t.Errorf("Check of %v for %s with %v: %s, not %s", in, self, l, got, want)
	}
}

func TestCheck(t *testing.T) {
	for _, c := range [][3]string{
		{"", "", ""},
		{"show()int", "show()int", ""},
		{"show()int eq(int)bool", "show()int eq(int)bool", ""},
		{"eq(int)bool show()int", "show()int eq(int)bool", ""},
		// methods lack
		{"", "show()int", "13@7 show"},
		{"", "show()int eq()int less()int", "13@7 show, 13@7 eq, 13@7 less"},
		{"eq()int", "show()int eq()int less()int", "13@7 show, 13@7 less"},
		{"eq()int", "less()int eq()int show()int", "13@7 less, 13@7 show"},
		// functions whose name is none
		{"show()int", "", "13@10 show"},
		{"show()int eq()int less()int", "eq()int", "13@10 show, 13@30 less"},
		{"Show()int", "show()int", "13@7 show, 13@10 Show"},
		{"show()int", "p::show()int", "13@7 p::show, 13@10 show"},
		// functions with other types
		{"show()int", "show()bool", "13@10 show"},
		{"show()int", "show(int)int", "13@10 show"},
		{"show(int)int", "show()int", "13@10 show"},
		{"show(int)int", "show(bool)int", "13@10 show"},
		{"show(int+bool)int", "show(bool+int)int", "13@10 show"},
		{"show(int+bool)int", "show(int+bool)int", ""},
		{"show(int+bool)int", "show(int+bool+int)int", "13@10 show"},
		{"show(int+bool+int)int", "show(int+bool)int", "13@10 show"},
		{"show(L<int>)L<int>", "show(L<int>)L<int>", ""},
		{"show(L<int>)L<int>", "show(L<int>)L<bool>", "13@10 show"},
		{"show(L<int>)L<int>", "show(L<L<int>>)L<int>", "13@10 show"},
		{"show(int)error", "show(int)error", ""},
		{"show(error)int", "show(int)int", "13@10 show"},
		{"show(int)int", "show(int)error", "13@10 show"},
		// all of it: what lacks comes first
		{"b()int a()int d()bool x()int", "a()int e()int d()int f()int b()int", "13@7 e, 13@7 f, 13@30 d, 13@40 x"},
	} {
		checkCheck(t, impl(c[0]), "int", methods(c[1]), c[2])
	}
}

func TestCheckPutsTheTypeForSelf(t *testing.T) {
	for _, c := range []struct{ impl, self, methods, want string }{
		{"show(int)int", "int", "show($Self)$Self", ""},
		{"show(int)int", "bool", "show($Self)int", "13@10 show"},
		{"show(int)bool", "int", "show(int)$Self", "13@10 show"},
		{"show(L<$T>+int)L<L<$T>>", "L<$T>", "show($Self+int)L<$Self>", ""},
		{"show(L<$U>)int", "L<$T>", "show($Self)int", "13@10 show"},
		{"show(P<L<int>,L<int>>)int", "L<int>", "show(P<$Self,$Self>)int", ""},
		{"show(P<L<int>,int>)int", "L<int>", "show(P<$Self,$Self>)int", "13@10 show"},
		{"show(int)int", "int", "show(Self)$self", "13@10 show"},
		{"show($T)int", "int", "show($T)$Self", ""},
		// the types of the function stay
		{"show($Self)int", "int", "show($Self)int", "13@10 show"},
		{"show($Self)int", "$Self", "show($Self)int", ""},
		{"show(L<$Self>)int", "L<$Self>", "show($Self)int", ""},
		{"show(int)int", "error", "show($Self)int", "13@10 show"},
		{"show(error)int", "error", "show($Self)int", ""},
		{"show($Self<int>)int", "int", "show($Self<$Self>)int", ""},
		{"show(int<int>)int", "int", "show($Self<int>)int", "13@10 show"},
	} {
		checkCheck(t, impl(c.impl), c.self, methods(c.methods), c.want)
	}
}

// Each element of l counts for what lacks, the first one with a name for the functions.
func TestCheckOfNamesThatComeTwice(t *testing.T) {
	for _, c := range [][3]string{
		{"", "show()int show()int", "13@7 show, 13@7 show"},
		{"", "show()int eq()int show()bool", "13@7 show, 13@7 eq, 13@7 show"},
		{"show()int", "show()int show()bool", ""},
		{"show()int", "show()bool show()int", "13@10 show"},
		{"show()int show()int", "show()int", ""},
		{"show()int show()bool", "show()int", "13@20 show"},
		{"show()bool show()int", "show()int", "13@10 show"},
		{"show()bool show()bool", "show()int", "13@10 show, 13@20 show"},
		{"show()bool show()int show()bool", "show()int show()bool", "13@10 show, 13@30 show"},
		{"a()int a()int", "", "13@10 a, 13@20 a"},
	} {
		checkCheck(t, impl(c[0]), "int", methods(c[1]), c[2])
	}
	// the zero signature is a signature
	l := append([]api.Known{{Def: "show"}}, methods("show()int")...)
	checkCheck(t, impl("show()int"), "int", l, "13@10 show")
	checkCheck(t, impl("show()_"), "int", l, "")
}

func TestCheckOfOtherTrees(t *testing.T) {
	for kind := range 45 {
		in := impl("show()int x()int")
		in.Kind = kind
		want := ""
		if kind == api.KImpl {
			want = "13@7 eq, 13@10 show, 13@20 x"
		}
		checkCheck(t, in, "int", methods("show()bool eq()int"), want)
	}
	checkCheck(t, api.Tree{}, "int", methods("show()int"), "")
	checkCheck(t, tree(api.KImpl, "", -3), "int", methods("show()int"), "13@-3 show")
	checkCheck(t, tree(api.KModule, "", 0, impl("")), "int", methods("show()int"), "")
}

// Only KFns that are Kids of the implementation count, wherever they stand among them.
func TestCheckOfOtherKids(t *testing.T) {
	in := impl("a()int b()int c()int")
	in.Kids[3].Kind = api.KSig
	checkCheck(t, in, "int", methods("a()int b()int c()int"), "13@7 b")
	in.Kids[2].Kind = api.KMacro
	in.Kids[4].Kind = api.KConst
	checkCheck(t, in, "int", methods("a()int b()int c()int"), "13@7 a, 13@7 b, 13@7 c")
	in = tree(api.KImpl, "p::S", 3, function("a()int", 4), tree(api.KParams, "", 5, function("b()int", 6)), function("c()int", 7))
	checkCheck(t, in, "int", methods("a()int b()int"), "13@3 b, 13@7 c")
}

// The types are those that a signature has: Kids by their numbers, and the type error where there is none.
func TestCheckOfFunctionsThatLackParts(t *testing.T) {
	for want, fn := range map[string]api.Tree{
		"a()error":        tree(api.KFn, "a", 1),
		"a(error)error":   tree(api.KFn, "a", 1, tree(api.KParams, "", 2), tree(api.KArgs, "", 3, tree(api.KArg, "x", 4))),
		"a(int)error":     tree(api.KFn, "a", 1, tree(api.KParams, "", 2), tree(api.KArgs, "", 3, tree(api.KArg, "x", 4, typeTree(of("int"))), tree(api.KName, "y", 4)), tree(api.KInt, "1", 5)),
		"a()int":          tree(api.KFn, "a", 1, tree(api.KArgs, "", 3, tree(api.KArg, "x", 4)), tree(api.KBlock, "", 3), typeTree(of("int"))),
		"a(error+int)int": tree(api.KFn, "a", 1, tree(api.KArgs, "", 2), tree(api.KArgs, "", 3, tree(api.KArg, "x", 4, tree(api.KName, "int", 5)), tree(api.KArg, "x", 4, typeTree(of("int")))), typeTree(of("int"))),
	} {
		for _, other := range []string{"a()error", "a(error)error", "a(int)error", "a()int", "a(error+int)int"} {
			diags := "13@1 a"
			if other == want {
				diags = ""
			}
			checkCheck(t, tree(api.KImpl, "p::S", 0, fn), "int", methods(other), diags)
		}
	}
}

// Neither the Kind of a signature counts, nor its Params, Names and Trait, nor those of a function.
func TestCheckOfOtherParts(t *testing.T) {
	l := methods("show($Self)int")
	in := impl("show(int)int")
	for kind := range 9 {
		l[0].Sig.Kind, l[0].Sig.Params, l[0].Sig.Names, l[0].Sig.Trait = kind, make([]api.Param, kind), []string{"x"}, "q::R"
		checkCheck(t, in, "int", l, "")
	}
	in.Kids[2].Kids[0].Kids = []api.Tree{tree(api.KParam, "T", 3, tree(api.KName, "p::R", 4))}
	in.Text = "q::Q"
	in.Kids[0], in.Kids[1] = api.Tree{}, typeTree(of("L<bool>"))
	checkCheck(t, in, "int", l, "")
	checkCheck(t, in, "bool", l, "13@10 show")
}
