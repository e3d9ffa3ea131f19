package infer_test

import (
	"testing"

	"recompile/api"
	"recompile/infer"
)

// checkFunction tests the diagnostics of a function with type parameters T and U, some arguments, a result and a body; the places are the numbers of the nodes.
func checkFunction(t *testing.T, args, result, body, diags string) {
	t.Helper()
	in := function("T U", args, result, body)
	if got := infer.Body(in, definitions()); showDiags(got.Diags) != diags {
		t.Errorf("%s: %s, expected %s", show(in), showDiags(got.Diags), diags)
	}
}

// at returns the number of the first node of the last Kid of the function that checkFunction makes: the function, its parameters and arguments, and the result come before it.
func TestArguments(t *testing.T) {
	for _, c := range []struct{ args, result, body, diags string }{
		{"x@0:int", "int", "local x@0", ""}, {"x@0:int", "bool", "local x@0", "9@8"}, {"x@0:p::L<int>", "p::L<int>", "local x@0", ""}, {"x@0:p::L<int>", "p::L<bool>", "local x@0", "9@10"}, {"x@0:$T", "$T", "local x@0", ""}, {"x@0:$T", "$U", "local x@0", "9@8"}, {"x@0:$T", "int", "local x@0", "9@8"},
		{"x@0:int y@1:bool", "int", "local x@0", ""}, {"x@0:int y@1:bool", "bool", "local y@1", ""}, {"x@0:int y@1:bool", "int", "local y@1", "9@10"}, {"x@0:int", "bool", "local y@1", ""}, {"", "bool", "local x@0", ""}, {"x@0:error", "bool", "local x@0", ""},
		{"x@0:int", "bool", "local x", ""}, {"x@0:int", "bool", "local x@00", ""}, {"x@0:int", "bool", "local", ""}, {"x@0:int", "bool", "local X@0", ""}, {"x:int", "bool", "local x", "9@8"}, {"x@0:p::nothing", "p::nothing", "local x@0", ""},
		// of several with one Text the last one counts
		{"x@0:int x@0:bool", "bool", "local x@0", ""}, {"x@0:int x@0:bool", "int", "local x@0", "9@10"}, {"x@0:int y@1:unit x@0:bool", "bool", "local x@0", ""}, {"x@0:int x@0:bool x@0:unit", "unit", "local x@0", ""}, {"x@0:bool x@0:int", "int", "local x@0", ""},
		// an argument has its type from the beginning on
		{"x@0:int", "unit", "block(let y@1(local x@0), print(local y@1), print(local x@0), unit)", ""}, {"x@0:bool", "unit", "block(let y@1(local x@0), print(local y@1), print(local x@0), unit)", "9@12, 9@14"},
		{"x@0:int", "int", "block(if(local x@0, local x@0, local x@0))", "9@10"},
	} {
		checkFunction(t, c.args, c.result, c.body, c.diags)
	}
}

// checkTree tests the diagnostics of any definition.
func checkTree(t *testing.T, in, diags string) {
	t.Helper()
	if got := infer.Body(of(in), definitions()); showDiags(got.Diags) != diags {
		t.Errorf("%s: %s, expected %s", in, showDiags(got.Diags), diags)
	}
}

func TestWhatIsAnArgument(t *testing.T) {
	for in, diags := range map[string]string{
		// without a KTypeOf the type is error
		"fn f(params, args(arg x@0), type bool, local x@0)":                                "",
		"fn f(params, args(arg x@0(name int)), type bool, local x@0)":                      "",
		"fn f(params, args(arg x@0(zero)), type bool, unary -(local x@0))":                 "9@6",
		"fn f(params, args(arg x@0(type int, type bool)), type bool, local x@0)":           "9@7",
		"fn f(params, args(arg x@0(type int), arg x@0), type bool, local x@0)":             "",
		"fn f(params, args(arg x@0, arg x@0(type int)), type bool, local x@0)":             "9@7",
		"fn f(params, args(arg x@0(type p::L(name int))), type p::L(type int), local x@0)": "",
		"fn f(params, args(arg x@0(type p::L(name int))), type p::R, local x@0)":           "9@7",
		// other Kids of a KArgs, and KArgs elsewhere, are none
		"fn f(params, args(name x@0(type int), param x@0(type int), let x@0(type int)), type bool, local x@0)": "",
		"fn f(params, params(arg x@0(type int)), type bool, local x@0)":                                        "",
		"fn f(params, args(args(arg x@0(type int))), type bool, local x@0)":                                    "",
		"const k(args(arg x@0(type int)), type bool, local x@0)":                                               "",
		"const k(args(arg x@0(type int)), local x@0)":                                                          "",
		"fn f(params, args, type bool, block(args(arg x@0(type int)), local x@0))":                             "",
		// each KArgs of the KFn counts
		"fn f(args(arg x@0(type int)), type int, type bool, local x@0)":                         "9@6",
		"fn f(params, args(arg x@0(type bool)), type bool, args(arg x@0(type int)), local x@0)": "9@9",
		"fn f(params, args(arg x@0(type bool)), type bool, args(arg y@1(type int)), local x@0)": "",
	} {
		checkTree(t, in, diags)
	}
}

func TestLets(t *testing.T) {
	for _, c := range []struct{ args, result, body, diags string }{
		{"", "int", "block(let x@0(int 1), local x@0)", ""}, {"", "bool", "block(let x@0(int 1), local x@0)", "9@6"}, {"", "p::L<int>", "block(let x@0(global p::l), let y@1(local x@0), local y@1)", ""},
		// only once it was visited: not in its own Kid, nor before it
		{"", "bool", "let x@0(unary -(local x@0))", "9@6"}, {"", "bool", "block(local x@0, let x@0(int 1), local x@0)", "9@6"}, {"", "bool", "block(let y@1(local x@0), let x@0(int 1), local y@1)", ""}, {"", "int", "block(let y@1(local x@0), let x@0(bool true), unary -(local x@0))", "9@12"},
		{"", "unit", "block(print(local x@0), let x@0(unit), print(local x@0), unit)", "9@12"}, {"", "unit", "block(let x@0(block(let x@0(int 1), local x@0)), print(local x@0), unit)", ""}, {"", "unit", "block(let x@0(block(let x@0(bool true), print(local x@0), int 1)), print(local x@0), unit)", "9@12"},
		// wherever it stands, it is known from there on
		{"", "int", "block(block(let x@0(int 1), unit), local x@0)", ""}, {"", "bool", "block(do(let x@0(int 1)), local x@0)", "9@6"}, {"", "bool", "block(while(let x@0(int 1), unit), local x@0)", "9@8, 9@6"}, {"", "bool", "block(bad(let x@0(int 1)), local x@0)", "9@6"}, {"", "bool", "block(if(bool true, let x@0(int 1), unit), local x@0)", "9@6"},
		{"", "bool", "binary +(let x@0(int 1), local x@0)", "9@7, 9@6"}, {"", "unit", "let x@0(let x@0(int 1))", ""}, {"", "unit", "block(let x@0(let x@0(int 1)), local x@0)", ""},
		// of several with one Text the last one that was visited counts
		{"", "bool", "block(let x@0(int 1), let x@0(bool true), local x@0)", ""}, {"", "unit", "block(let x@0(int 1), print(local x@0), let x@0(bool true), print(local x@0), unit)", "9@14"}, {"x@0:int", "bool", "block(let x@0(bool true), local x@0)", ""}, {"x@0:int", "unit", "block(print(local x@0), let x@0(bool true), print(local x@0), unit)", "9@14"},
		{"x@0:int", "bool", "block(block(let x@0(bool true), unit), local x@0)", ""}, {"x@0:int", "int", "block(let x@1(bool true), local x@0)", ""},
		// one without a Kid gives none, and of several Kids the first one counts
		{"", "bool", "block(let x@0, local x@0)", ""}, {"x@0:int", "bool", "block(let x@0, local x@0)", "9@8"}, {"x@0:bool", "int", "block(let x@0(int 1), let x@0, local x@0)", ""}, {"", "int", "block(let x@0(int 1, bool true), local x@0)", ""}, {"", "bool", "block(let x@0(int 1, bool true), local x@0)", "9@6"},
		// its type is that of its Kid, also if this is found later
		{"", "int", "block(let x@0(call p::any), print(local x@0), local x@0)", ""}, {"", "bool", "block(let x@0(call p::any), print(local x@0), local x@0)", "9@6"}, {"", "bool", "block(let x@0(call p::any), local x@0)", ""}, {"", "unit", "block(let x@0(call p::any), print(local x@0), do(unary !(local x@0)), unit)", "9@13"},
		{"", "unit", "block(let x@0(call p::any), let y@1(local x@0), do(unary !(local y@1)), print(local x@0), unit)", "9@15"}, {"", "bool", "block(let x@0(bad), print(local x@0), do(unary !(local x@0)), local x@0)", ""},
	} {
		checkFunction(t, c.args, c.result, c.body, c.diags)
	}
}

func TestAssigns(t *testing.T) {
	for _, c := range []struct{ args, result, body, diags string }{
		{"x@0:int", "unit", "assign x@0(int 1)", ""}, {"x@0:int", "unit", "assign x@0(bool true)", "9@9"}, {"x@0:int", "unit", "assign x@0(bad)", ""}, {"x@0:p::L<int>", "unit", "assign x@0(global p::l)", ""}, {"x@0:$T", "unit", "assign x@0(int 1)", "9@9"}, {"x@0:int", "int", "assign x@0(int 1)", "9@8"}, {"x@0:int", "bool", "assign x@0(bool true)", "9@9, 9@8"},
		{"", "unit", "assign x@0(bool true)", ""}, {"", "unit", "assign x@0(call p::f)", "8@7 p::f"}, {"x@0:int", "unit", "assign y@1(bool true)", ""}, {"x@0:int", "unit", "assign x@0", ""}, {"x@0:int", "unit", "assign x@0(int 1, bool true)", ""}, {"x@0:int", "unit", "assign x@0(bool true, int 1)", "9@9"},
		{"", "unit", "block(let x@0(int 1), assign x@0(int 2), assign x@0(bool true), unit)", "9@12"}, {"", "unit", "block(assign x@0(bool true), let x@0(int 1), unit)", ""}, {"", "bool", "block(let x@0(call p::any), assign x@0(bool true), local x@0)", ""}, {"", "int", "block(let x@0(call p::any), assign x@0(bool true), local x@0)", "9@6"},
		{"x@0:int", "unit", "block(let x@0(bool true), assign x@0(int 1), unit)", "9@12"}, {"x@0:int", "bool", "block(assign x@0(int 1), let y@1(assign x@0(int 1)), local y@1)", "9@8"}, {"x@0:error", "unit", "block(assign x@0(int 1), assign x@0(bool true), unit)", ""},
		{"", "bool", "block(let x@0(bad), assign x@0(int 1), local x@0)", ""}, {"", "unit", "block(let x@0(call p::any), assign x@0, print(local x@0), do(unary !(local x@0)), unit)", ""},
		// an assignment gives no variable
		{"", "bool", "block(assign x@0(int 1), local x@0)", ""},
	} {
		checkFunction(t, c.args, c.result, c.body, c.diags)
	}
}

// A missing Kid has the type error, so that a variable that has to be equal to it gets this type.
func TestMissingKidsGiveTheTypeError(t *testing.T) {
	for body, want := range map[string]string{
		"if(bool true, call p::any)":                                    "if(bool true, call p::any<error>)",
		"block(let x@0(call p::any), assign x@0)":                       "block(let x@0(call p::any<error>), assign x@0)",
		"do(if(bool true, call p::any, bad))":                           "do(if(bool true, call p::any<error>, bad))",
		"do(if(bool true, bad, call p::any))":                           "do(if(bool true, bad, call p::any<error>))",
		"do(unary -(call p::any))":                                      "do(unary -(call p::any<int>))",
		"do(binary &&(call p::any))":                                    "do(binary &&(call p::any<bool>))",
		"do(call p::id(bad))":                                           "do(call p::id<error>(bad))",
		"block(let x@0(call p::any), do(call p::same(bad, local x@0)))": "block(let x@0(call p::any<error>), do(call p::same<error>(bad, local x@0)))",
	} {
		checkBody(t, constant("unit", "block("+body+", unit)"), definitions(), "block("+want+", unit)", "", "")
	}
	in := api.Tree{Kind: api.KConst, Kids: []api.Tree{{}, {Kind: api.KIf, At: 5, Kids: []api.Tree{{Kind: api.KInt, At: 8}}}}}
	if got := infer.Body(in, nil); showDiags(got.Diags) != "9@8" {
		t.Errorf("a KIf with one Kid: %s", showDiags(got.Diags))
	}
}
