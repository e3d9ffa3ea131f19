package signature_test

import (
	"slices"
	"strings"
	"testing"

	"recompile/api"
	"recompile/modules"
	"recompile/parser"
	"recompile/resolve"
	"recompile/shape"
	"recompile/signature"
)

// A signature, and what a definition needs, do not depend on places; diagnostics have those of their nodes.
func TestPlacesDoNotMatter(t *testing.T) {
	d := &dice{111}
	for range 4000 {
		in, l := shape.Number(d.definition()), d.known()
		places := make([]int, shape.Count(in))
		for i := range places {
			places[i] = d.roll(1000) - 500
		}
		moved := copied(in)
		change(&moved, func(n *api.Tree) { n.At = places[n.At] })
		if got, want := signature.Of("p::d", moved), signature.Of("p::d", in); exact(got) != exact(want) {
			t.Fatalf("%s with other places: %s", show(in), showSig(got))
		}
		if !slices.Equal(signature.Needs(moved), signature.Needs(in)) || exactType(signature.Type(moved)) != exactType(signature.Type(in)) {
			t.Fatalf("%s with other places needs %q", show(in), signature.Needs(moved))
		}
		want := signature.Check(in, l)
		for i := range want {
			want[i].Node = places[want[i].Node]
		}
		if got := signature.Check(moved, l); !slices.Equal(got, want) {
			t.Fatalf("%s with other places: %s, not %s", show(in), showDiags(got), showDiags(want))
		}
	}
}

// withOtherBody returns a definition in which all is changed that belongs to its body, and to the bodies of the functions in it.
func (d *dice) withOtherBody(t api.Tree) api.Tree {
	t = copied(t)
	keep := map[int]int{api.KConst: 1, api.KFn: 3, api.KType: 2, api.KMacro: 0, api.KImpl: 2, api.KTrait: len(t.Kids), api.KSig: len(t.Kids)}
	var rest []api.Tree
	if n := keep[t.Kind]; n <= len(t.Kids) {
		t.Kids, rest = t.Kids[:n:n], t.Kids[n:]
	} else {
		return t
	}
	for _, k := range rest {
		if t.Kind == api.KImpl && k.Kind == api.KFn {
			t.Kids = append(t.Kids, tree(api.KFn, k.Text, d.roll(100), d.tree(api.KParams, 3), d.tree(api.KBlock, 3)))
		}
	}
	for i, k := range t.Kids {
		if t.Kind == api.KTrait && k.Kind == api.KSig {
			t.Kids[i].Kids = []api.Tree{d.tree(api.KArgs, 4)}
		}
	}
	for range d.roll(3) {
		if t.Kind != api.KTrait && t.Kind != api.KSig {
			t.Kids = append(t.Kids, d.tree([]int{api.KBlock, api.KParams, api.KArgs, api.KTypeOf, api.KName, api.KSupers, api.KSig}[d.roll(7)], 3))
		}
	}
	return t
}

func TestBodiesDoNotMatter(t *testing.T) {
	d := &dice{112}
	for range 20000 {
		in := d.definition()
		for len(in.Kids) < 3 {
			in.Kids = append(in.Kids, d.tree(api.KTypeOf, 2))
		}
		other := d.withOtherBody(in)
		if got, want := signature.Of("p::d", other), signature.Of("p::d", in); exact(got) != exact(want) {
			t.Fatalf("%s:\n%s; with another body, %s:\n%s", show(in), showSig(want), show(other), showSig(got))
		}
	}
}

// Texts of definitions that differ in their bodies, places, and names of arguments have one signature.
func TestTextsWithOneSignature(t *testing.T) {
	for want, texts := range map[string][]string{
		"const -> p::L<int>": {"const d: L<int> = 1;", "const d : L < int >\n= // a comment\n new L(none, two) + g!();", "const d: L<int> = { let x = true; while x { x = f(x); } x };"},
		"fn <T: p::S> ($T, int) -> bool": {
			"fn d<T: S>(x: T, y: int) -> bool { true }", "fn d<T: S>(y: T, x: int) -> bool { }", " fn  d<T:S>(a:T,a:int)->bool{let z=a;print a;none(z)}", "fn d<T: S>(x: T, y: int) -> bool { x = two; g!(R); new R(x, c).a }",
		},
		"impl <T> [m, k] (p::L<$T>) of p::S": {
			"impl<T> S for L<T> { fn m() {} fn k() {} }", "impl<T> S for L<T> { fn m(x: none) -> T { x } fn k(x: T, y: int) -> L<T> { f(y, x) } }", "impl < T > S for L < T >\n{ fn m() { { { } } } fn k() -> two { } }",
		},
		"trait [m, k, :p::S]":              {"trait d: S { fn m(); fn k(); }", "trait d: S { fn m(s: Self) -> none; fn k(x: L<L<Self>>) -> Self; }"},
		"macro":                            {"macro d() = 1;", "macro d(x, y) = x + none + d!(y);"},
		"record <T> [a] (int) -> p::d<$T>": {"type d<T> { a: int }", "type\nd<T>{a:int}"},
	} {
		for _, text := range texts {
			if got := showSig(signature.Of("p::d", resolved(t, text))); got != want {
				t.Errorf("%s: %s, not %s", text, got, want)
			}
		}
	}
}

// program are definitions of a module p by their names, after name resolution.
func program(t *testing.T, text string) map[string]api.Tree {
	t.Helper()
	items, errors := parser.Module(text)
	if len(errors) > 0 {
		t.Fatalf("errors at %v", errors)
	}
	names := modules.Names(items)
	binds := modules.Step("p", names, nil)
	out := map[string]api.Tree{}
	for _, name := range names {
		def, _ := modules.Item(items, name)
		out["p::"+name] = resolve.Resolve(shape.Number(def), binds).Tree
	}
	return out
}

func TestProgram(t *testing.T) {
	defs := program(t, `
		const size: int = 1;
		type Nil {}
		type List<T: Show> { head: T, tail: List<T>, head: Nil<T> }
		trait Show: Show + Eq { fn show(s: Self, s: size) -> List<Self>; }
		trait Eq {}
		impl<T: Nil, V> Show for List<T> { fn show(s: List<T>) -> List { s } }
		impl size for Show {}
		fn make<T: show>(x: make, y: int, x: T) -> List<List<T>, Nil> { y }`)
	want := map[string][3]string{
		"p::size":                       {"const -> int", "", ""},
		"p::Nil":                        {"record -> p::Nil", "", ""},
		"p::List":                       {"record <T: p::Show> [head, tail, head] ($T, p::List<$T>, p::Nil<$T>) -> p::List<$T>", "p::List p::Nil p::Show", "2@10 head, 8@11 p::Nil"},
		"p::Show":                       {"trait [show, :p::Show, :p::Eq]", "p::Eq p::List p::Show p::size", "2@8 s, 7@9 p::size"},
		"p::show":                       {"method <Self: p::Show> ($Self, p::size) -> p::List<$Self> of p::Show", "p::List p::size", "2@4 s, 7@5 p::size"},
		"p::Eq":                         {"trait", "", ""},
		"p::impl Show for List[T]":      {"impl <T: p::Nil, V> [show] (p::List<$T>) of p::Show", "p::List p::Nil p::Show", "7@3 p::Nil, 8@13 p::List"},
		"p::impl Show for List[T].show": {"fn <T: p::Nil, V> (p::List<$T>) -> p::List", "p::List p::Nil", "7@3 p::Nil, 8@9 p::List"},
		"p::impl size for Show":         {"impl (p::Show) of p::size", "p::Show p::size", "7@0 p::size, 7@2 p::Show"},
		"p::make":                       {"fn <T: p::show> (p::make, int, $T) -> p::List<p::List<$T>, p::Nil>", "p::List p::Nil p::make p::show", "7@3 p::show, 7@6 p::make, 2@9 x@2, 8@11 p::List"},
	}
	if len(defs) != len(want) {
		t.Errorf("there are %d definitions", len(defs))
	}
	for def, tree := range defs {
		needs := signature.Needs(tree)
		var l []api.Known
		for _, need := range needs {
			l = append(l, api.Known{Def: need, Sig: signature.Of(need, defs[need])})
		}
		got := [3]string{showSig(signature.Of(def, tree)), strings.Join(needs, " "), showDiags(signature.Check(tree, l))}
		if got != want[def] {
			t.Errorf("%s: %q\nnot %q", def, got, want[def])
		}
	}
}

// With what Needs names, Check finds what it finds with all signatures, in any order.
func TestWhatIsNeededIsEnough(t *testing.T) {
	d := &dice{113}
	for range 4000 {
		in, l := d.definition(), d.known()
		needs := signature.Needs(in)
		var some []api.Known
		for _, x := range l {
			first := !slices.ContainsFunc(some, func(y api.Known) bool { return y.Def == x.Def })
			if first && slices.Contains(needs, x.Def) {
				some = append(some, x)
			}
		}
		slices.Reverse(some)
		if got, want := signature.Check(in, some), signature.Check(in, l); !slices.Equal(got, want) {
			t.Fatalf("%s with what it needs: %s, not %s", show(in), showDiags(got), showDiags(want))
		}
		lacking := 0
		for _, x := range signature.Check(in, nil) {
			if x.Code == api.CodeKind && slices.Contains(needs, x.Text) {
				lacking++
			}
		}
		if lacking < len(needs) {
			t.Fatalf("%s needs %q, but only %d of them are lacking", show(in), needs, lacking)
		}
	}
}
