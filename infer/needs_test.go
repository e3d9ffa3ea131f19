package infer_test

import (
	"slices"
	"strings"
	"testing"

	"recompile/api"
	"recompile/infer"
	"recompile/signature"
)

func checkNeeds(t *testing.T, in api.Tree, want string) {
	t.Helper()
	if got := infer.Needs(in); !slices.Equal(got, strings.Fields(want)) {
		t.Errorf("%s needs %q, expected %q", show(in), got, want)
	}
}

func TestNeedsOfFunctionsAndConstants(t *testing.T) {
	for text, want := range map[string]string{
		"const k(type int, global p::c)":                                                     "p::c",
		"const k(type int, call p::f)":                                                       "p::f",
		"const k(type int, new p::R)":                                                        "p::R",
		"fn k(params, args, type int, block(global p::c))":                                   "p::c",
		"fn k(params, args, type int, block(do(call p::f), new p::R))":                       "p::R p::f",
		"const k(type int, binary +(global p::c, global p::a))":                              "p::a p::c",
		"const k(type int, call p::z(new p::y(global p::x), call p::w(dot a(global p::v))))": "p::v p::w p::x p::y p::z",
		// each once, and ascending by bytes
		"const k(type int, block(global b, global a, call b, new a, global b, call a))":                           "a b",
		"const k(type int, block(global b, global a10, global B, global a, global a1, call -, new é, global ::))": "- :: B a a1 a10 b é",
		"const k(type int, call p::f(call p::f(call p::f)))":                                                      "p::f",
		// in all kinds of nodes, also in those that Body does not name
		"const k(type int, if(global a, block(global b), block(let x@0(global c), while(global d, block(assign x@0(global e), print(global f), do(unary -(global g)))))))": "a b c d e f g",
		"const k(type int, bad a(global b, bad c(call d)))":                   "b d",
		"const k(type int, zero(params(param T(global a)), macro b(call c)))": "a c",
		"const k(type int, int 1(global a))":                                  "a",
		"const k(type int, local x@0(new a))":                                 "a",
		"const k(type int, fn g(params, args, type int, block(global a)))":    "a",
	} {
		checkNeeds(t, of(text), want)
	}
}

// What signature.Needs names is needed, too: types, bounds and traits that contain two colons, wherever they stand.
func TestNeedsOfSignatures(t *testing.T) {
	for text, want := range map[string]string{
		"fn k(params(param T(name p::S), param U(name Q)), args(arg x@0(type p::R(type $T, type p::L(type int)))), type p::O, block(int 1))": "p::L p::O p::R p::S",
		"const k(type p::R, int 1)":                                   "p::R",
		"const k(type p::R(type p::L), global p::c)":                  "p::L p::R p::c",
		"const k(type p::R, new p::R)":                                "p::R",
		"fn k(params(param T(name p::S)), type p::S, call p::S)":      "p::S",
		"const k(type p::Z, block(global p::b, call p::Z, new p::a))": "p::Z p::a p::b",
		// types and traits in the last Kid
		"const k(type int, type p::R)":                         "p::R",
		"const k(type int, params(param T(name p::S)))":        "p::S",
		"const k(type int, impl p::S(supers(name p::A)))":      "p::A p::S",
		"const k(type R, global c)":                            "c",
		"const k(type $T, global $T)":                          "$T",
		"const k(type int, name p::n)":                         "",
		"const k(type int, local p::n)":                        "",
		"const k(type int, dot p::n)":                          "",
		"const k(type int, bad p::n)":                          "",
		"const k(type int, expand p::n)":                       "",
		"const k(type int, let p::n(unary p::n(binary p::n)))": "",
	} {
		checkNeeds(t, of(text), want)
	}
}

// Only the last Kid of a KFn or KConst with at least two Kids is gone through.
func TestNeedsOfOtherTrees(t *testing.T) {
	for text, want := range map[string]string{
		"zero": "", "const k": "", "fn k": "", "const k(global p::c)": "", "fn k(call p::f)": "", "const k(type p::R)": "p::R", "fn k(type p::R(global a))": "p::R",
		"const k(global a, global b)": "b", "fn k(global a, global b)": "b", "fn k(global a, new b, call c, global d)": "d", "const k(global a, new b, call c)": "c", "const k(block(global a), block)": "",
		"fn k(type p::R(global a), int 1)": "p::R",
		"global p::c":                      "", "call p::f(global p::c)": "", "new p::R": "", "block(global a, global b)": "", "let x(global a, global b)": "", "macro m(args, global b)": "", "module(const k(type int, global a))": "",
		"record k(params, global a)": "", "trait k(supers, sig m(args, global a))": "", "sig k(args, global a)": "", "impl p::S(params, type p::R, fn k(params, args, type int, block(global a)))": "p::R p::S",
		"type p::R(type p::L)": "p::L p::R", "record k(params(param T(name p::S)), args(arg a(type p::R)))": "p::R p::S", "trait k(supers(name p::S))": "p::S",
	} {
		checkNeeds(t, of(text), want)
	}
	checkNeeds(t, api.Tree{Kind: -1, Kids: []api.Tree{of("global a"), of("global b")}}, "")
	checkNeeds(t, api.Tree{Kind: api.KConst, Kids: []api.Tree{{Kind: 99}, {Kind: -5, Text: "x", Kids: []api.Tree{of("global b")}}}}, "b")
}

// Texts count as they are, also an empty one.
func TestNeedsOfTexts(t *testing.T) {
	in := api.Tree{Kind: api.KConst, Kids: []api.Tree{{}, {Kind: api.KGlobal, Kids: []api.Tree{{Kind: api.KCall, Text: "b,(\x00"}, {Kind: api.KNew, Text: "\xff"}, {Kind: api.KCall, Text: " a"}}}}}
	if got, want := infer.Needs(in), []string{"", " a", "b,(\x00", "\xff"}; !slices.Equal(got, want) {
		t.Errorf("Needs of other Texts: %q, expected %q", got, want)
	}
}

func TestNeedsOfAProgram(t *testing.T) {
	p := compile(t, `
		const size: int = 1;
		type List<T: Show> { head: T, tail: List<T> }
		type Nil {}
		trait Show { fn show(s: Self) -> Nil; }
		impl<T: Show> Show for List<T> { fn show(s: List<T>) -> Nil { show(s.head); show(new Nil()) } }
		fn make<T: Show>(x: T) -> List<T> { let y = size; while y < size { print make(make(y)); } new List(x, make(x)) }
		fn none() { unknown(size).x; }
		macro m() = size;`)
	for name, want := range map[string]string{
		"size": "", "List": "p::List p::Show", "Nil": "", "Show": "p::Nil", "show": "p::Nil", "impl Show for List[T]": "p::List p::Nil p::Show",
		"impl Show for List[T].show": "p::List p::Nil p::Show p::show", "make": "p::List p::Show p::make p::size", "none": "p::size", "m": "",
	} {
		checkNeeds(t, p.trees[name], want)
	}
}

// A second reading, for generated trees: all nodes in a list.
func TestNeedsOfGeneratedTrees(t *testing.T) {
	d := &dice{131}
	found := map[string]int{}
	for range 20000 {
		in := d.anyTree(nil)
		want := map[string]bool{}
		for _, def := range signature.Needs(in) {
			want[def] = true
		}
		if len(in.Kids) > 1 && slices.Contains([]int{api.KFn, api.KConst}, in.Kind) {
			change(&in.Kids[len(in.Kids)-1], func(n *api.Tree) {
				if slices.Contains([]int{api.KGlobal, api.KCall, api.KNew}, n.Kind) {
					want[n.Text] = true
				}
			})
		}
		got := infer.Needs(in)
		if !slices.IsSorted(got) || len(slices.Compact(slices.Clone(got))) != len(got) || len(got) != len(want) {
			t.Fatalf("%s needs %q, expected %v", show(in), got, want)
		}
		for _, def := range got {
			if !want[def] {
				t.Fatalf("%s needs %q, expected %v", show(in), got, want)
			}
			found[def]++
		}
	}
	if len(found) < 8 {
		t.Errorf("only %v were needed", found)
	}
}
