package lower_test

import (
	"strings"
	"testing"

	"recompile/api"
	"recompile/lower"
)

// checkCalls tests which instances a definition calls.
func checkCalls(t *testing.T, in api.Tree, names string, args []api.Type, want []api.Type) {
	t.Helper()
	if got := lower.Calls(in, strings.Fields(names), args); exactTypes(got) != exactTypes(want) {
		t.Errorf("%s with %s and %s calls %s, expected %s", show(in), names, exactTypes(args), exactTypes(got), exactTypes(want))
	}
	if got := readCalls(in, strings.Fields(names), args); exactTypes(got) != exactTypes(want) {
		t.Errorf("%s with %s and %s is read as calling %s, expected %s", show(in), names, exactTypes(args), exactTypes(got), exactTypes(want))
	}
}

func TestCallsOfFunctionsAndConstants(t *testing.T) {
	for text, want := range map[string]string{
		"const k(type int, call p::f)":                           "p::f",
		"const k(type int, call p::f<int,p::L<bool>>)":           "p::f<int,p::L<bool>>",
		"fn f(params, args, type int, block(call p::f))":         "p::f",
		"fn f(params, args, type int, call p::f)":                "p::f",
		"const k(type int, int 1)":                               "",
		"const k(type int, block(do(call b), do(call a), unit))": "a b",
		// ascending by their texts, each once
		"const k(type int, call p::f(call p::f, call p::f<int>, call p::f))":                                  "p::f p::f<int>",
		"const k(type int, block(call b, call a10, call B, call a, call a1, call -, call é, call ::))":        "- :: B a a1 a10 b é",
		"const k(type int, block(call f<b>, call f<a,b>, call f<a>, call f<a<b>>, call f1, call f, call f2))": "f f1 f2 f<a,b> f<a<b>> f<a> f<b>",
		"const k(type int, block(call f<int>, call f!, call f, call f=))":                                     "f f! f<int> f=",
		// in all nodes of the last Kid, each of which can have any Kids
		"fn f(params, args, type int, if(call a, block(call b), block(let x@0(call c), while(call d, block(assign x@0(call e), print(call f), do(unary -(call g)), binary +(call h, dot 0(new p::R(call i))))))))": "a b c d e f g h i",
		"const k(type int, bad a(call b, dot x(call c), int 1(call d), local x@0(call e), global c(call f)))":                                                                                                      "b c d e f",
		"const k(type int, zero(params(param T(call a)), macro b(call c), fn f(params, args, type int, call d), type x(call e)))":                                                                                  "a c d e",
		"const k(type int, unary -(int 1, call a, call b(call c)))":                                                                                                                                                "a b c",
		// but in no other Kid, and no other nodes
		"const k(call a, call b)": "b", "fn f(call a, call b, new p::R(call c), call d)": "d", "const k(call a, int 1)": "", "const k(block(call a), args(call b), call c, block)": "", "fn f(args(arg x@0(call a)), int 1)": "",
		"const k(type int, block(global a, new b, dot c, local d, bad e, type f, name g, expand h, fn i, let j, assign k, macro l, int m))": "",
	} {
		checkCalls(t, of(text), "", nil, typesOf(want))
	}
}

func TestCallsOfOtherTrees(t *testing.T) {
	for _, text := range []string{"zero", "const k", "const k(call a)", "fn f", "fn f(call a)", "fn f(block(call a))", "call a", "call a(call b, call c)", "block(call a, call b)", "bad(call a, call b)", "macro m(args, call a)", "sig s(args, call a)", "record r(params, call a)", "trait t(supers, call a)", "impl p::S(params, type int, fn f(params, args, type int, call a))", "module(const k(type int, call a), call b)", "let x@0(call a, call b)"} {
		checkCalls(t, of(text), "", nil, nil)
	}
	for _, kind := range []int{-1, 0, 1, 2, 5, 9, 16, 41} {
		in := constant("call a")
		in.Kind = kind
		checkCalls(t, in, "", nil, nil)
	}
}

func TestCallsWithTextsThatAreNoTypes(t *testing.T) {
	block := api.Tree{Kind: api.KBlock}
	for _, text := range unreadable() {
		in := api.Tree{Kind: api.KConst, Kids: []api.Tree{{}, {Kind: api.KCall, Text: text}}}
		checkCalls(t, in, "", nil, nil)
		checkCalls(t, in, "T", typesOf("int"), nil)
		block.Kids = append(block.Kids, in.Kids[1], api.Tree{Kind: api.KCall, Text: "a" + strings.Trim(text, "<>,")})
	}
	checkCalls(t, api.Tree{Kind: api.KConst, Kids: []api.Tree{{}, block}}, "", nil, typesOf("a aint ap::f"))
}

func TestCallsOfParameters(t *testing.T) {
	for _, c := range []struct{ value, names, args, want string }{
		{"call p::f<$T>", "T", "int", "p::f<int>"}, {"call p::f<$T>", "T", "p::L<p::R>", "p::f<p::L<p::R>>"}, {"call p::f<$T,p::L<$U>,$T>", "T U", "int bool", "p::f<int,p::L<bool>,int>"}, {"call p::f<$T>", "U", "int", "p::f<$T>"}, {"call p::f<T>", "T", "int", "p::f<T>"}, {"call $T", "T", "p::f<int>", "p::f<int>"}, {"call $T<int>", "T", "p::f", "$T<int>"},
		{"call p::f<$T>", "T", "", "p::f<$T>"}, {"call p::f<$T>", "", "int", "p::f<$T>"}, {"call p::f<$T,$U>", "T U", "int", "p::f<int,$U>"}, {"call p::f<$T>", "T T", "int bool", "p::f<int>"}, {"call p::f<$T,$U>", "T U", "$U $T", "p::f<$U,$T>"}, {"call p::f<error>", "T", "int", "p::f<error>"},
		// two Texts become one, and the order is that of the types
		{"block(call p::f<$T>, call p::f<int>, call p::f<$U>)", "T U", "int int", "p::f<int>"}, {"block(call p::f<$T>, call p::f<m>, call p::f<$U>)", "T U", "z a", "p::f<a> p::f<m> p::f<z>"}, {"block(call $T, call b, call $U)", "T U", "c a", "a b c"},
	} {
		checkCalls(t, constant(c.value), c.names, typesOf(c.args), typesOf(c.want))
	}
}

// Of several types with one text there is the first one, in the order of the nodes.
func TestCallsWithOneText(t *testing.T) {
	one, two, name := ty("p::f", ty("int,bool")), ty("p::f", ty("int"), ty("bool")), ty("p::f<int,bool>")
	args := []api.Type{one.Args[0], name}
	for value, want := range map[string]api.Type{
		"block(call p::f<$T>, call p::f<int,bool>, call $U)": one, "block(call p::f<int,bool>, call p::f<$T>, call $U)": two, "block(call $U, call p::f<$T>, call p::f<int,bool>)": name, "block(call $U, call p::f<int,bool>, call p::f<$T>)": name,
		// a node comes before its Kids, and these in their order
		"call p::f<$T>(call p::f<int,bool>)": one, "call p::f<int,bool>(call p::f<$T>)": two, "call $U(call p::f<int,bool>(call p::f<$T>))": name, "block(block(block(call p::f<$T>)), call $U)": one, "block(call $U, block(block(call p::f<$T>)))": name,
		"binary +(int 1(call p::f<$T>), call $U)": one,
	} {
		checkCalls(t, constant(value), "T U", args, []api.Type{want})
	}
	checkCalls(t, constant("block(call z, call $T, call b<$T>, call b)"), "T", []api.Type{ty("")}, []api.Type{ty(""), ty("b"), ty("b", ty("")), ty("z")})
}

// Body finds the target of each call that Calls returns, and calls no other ones.
func TestCallsAreWhatBodyNeeds(t *testing.T) {
	d := &dice{141}
	symbols := 0
	for range 4000 {
		in, names, args := d.anyTree(), d.names(), d.args()
		calls := map[string]bool{}
		for _, x := range lower.Calls(in, names, args) {
			calls[showType(x)] = true
		}
		for _, o := range lower.Body(in, names, args, same(lower.Calls(in, names, args))).Ops {
			if o.Kind == api.OpCall && o.Sym != "" {
				symbols++
				if !calls[o.Sym] {
					t.Fatalf("%s calls %s, but not among %v", show(in), o.Sym, calls)
				}
			}
		}
	}
	if symbols < 1000 {
		t.Errorf("only %d symbols", symbols)
	}
}
