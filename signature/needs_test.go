package signature_test

import (
	"slices"
	"strings"
	"testing"

	"recompile/api"
	"recompile/signature"
)

func TestNeeds(t *testing.T) {
	for _, c := range []struct{ tree, want string }{
		// each place that counts
		{"type p::R", "p::R"},
		{"impl p::S", "p::S"},
		{"param T(name p::S)", "p::S"},
		{"supers(name p::S)", "p::S"},
		{"const c(type p::R, int 1)", "p::R"},
		{"fn f(params(param T(name p::S)), args(arg x@0(type p::R)), type p::L(type q::R), block)", "p::L p::R p::S q::R"},
		{"record d(params(param T(name p::S)), args(arg a(type p::L(type $T)), arg b(type int)))", "p::L p::S"},
		{"trait d(supers(name p::A, name q::B), sig m(args(arg s(type $Self), arg x(type p::R)), type p::Q))", "p::A p::Q p::R q::B"},
		{"impl p::S(params(param T(name q::S)), type p::L(type $T), fn m(params, args(arg s@0(type q::R)), type r::R, block))", "p::L p::S q::R q::S r::R"},
		// at any Kid, and at any depth
		{"param T(zero, name p::B, type p::R, name p::A)", "p::A p::B p::R"},
		{"supers(zero, name p::B, supers(name p::C, param U(name p::D)), name p::A)", "p::A p::B p::C p::D"},
		{"zero(zero(block(impl p::A(name p::X, impl p::B)), name p::Y(type p::C(name p::Z(type p::D)))))", "p::A p::B p::C p::D"},
		{"macro m(args(name p::x), block(let p::y(type p::R), type p::Q))", "p::Q p::R"},
		{"type a(type b(type c(type p::D)))", "p::D"},
		{"param T(name p::A(name p::B))", "p::A"},
		// each once, ascending
		{"type p::R(type p::R(type p::R), type p::R)", "p::R"},
		{"impl p::S(params(param T(name p::S), param U(name p::S)), type p::S, supers(name p::S))", "p::S"},
		{"zero(type p::c, type p::b, type p::ab, type p::a, type p::B, type q::A, type o::z, type p::b, type é::a)", "o::z p::B p::a p::ab p::b p::c q::A é::a"},
		// two colons anywhere in the Text
		{"zero(type ::, type p::, type ::p, type a::b::c, type x:::y, type $T::x, type p::R@0)", "$T::x :: ::p a::b::c p:: p::R@0 x:::y"},
		{"param T(name ::, name p::, name ::p)", ":: ::p p::"},
		{"zero(impl ::, impl p::, impl ::p)", ":: ::p p::"},
		// no two colons
		{"type int", ""},
		{"type", ""},
		{"zero(type int, type error, type $T, type p:R, type p: :R, type a:b:c, type :, impl S, impl p:S, impl)", ""},
		{"param T(name S, name p:S, name, name a:b:c)", ""},
		{"supers(name S, name none, name :)", ""},
		// places that do not count
		{"name p::S", ""},
		{"zero", ""},
		{"param p::T", ""},
		{"supers p::T", ""},
		{"param p::T(type int, supers p::U(param p::V))", ""},
		{"sig p::m(args, type int, name p::S)", ""},
		{"args(name p::x, arg p::y(name p::z))", ""},
		{"params p::a(name p::S, param p::T)", ""},
		{"type L(name p::S)", ""},
		{"impl S(name p::S)", ""},
		{"block(name p::x, call p::f, new p::R, global p::c, local p::x@0, bad p::y, expand p::m, let p::z, assign p::z, dot p::w)", ""},
		{"param T(call p::f, new p::R, global p::c, local p::x, bad p::y, expand p::m, supers p::z, sig p::z, fn p::z)", ""},
		{"supers(call p::f, new p::R, global p::c, local p::x, bad p::y, param p::z, const p::z)", ""},
		{"const p::c(int p::i)", ""},
		{"trait p::d(supers, sig p::m)", ""},
		{"fn p::f(params, args, type int, block)", ""},
		{"zero p::a(record p::b, macro p::c, use p::d, pubuse p::e, module p::f)", ""},
	} {
		if got := strings.Join(signature.Needs(of(c.tree)), " "); got != c.want {
			t.Errorf("%s: %q, not %q", c.tree, got, c.want)
		}
	}
}

// Each kind of node, alone and below each other kind.
func TestNeedsOfEachKind(t *testing.T) {
	for kind := -3; kind <= 50; kind++ {
		for above := -3; above <= 50; above++ {
			in := tree(above, "x", 0, tree(kind, "p::b", 0), tree(kind, "p::a", 0), tree(kind, "c", 0), tree(kind, "p::b", 0))
			var want []string
			if kind == api.KTypeOf || kind == api.KImpl || kind == api.KName && (above == api.KParam || above == api.KSupers) {
				want = []string{"p::a", "p::b"}
			}
			if got := signature.Needs(in); !slices.Equal(got, want) {
				t.Errorf("%s: %q", show(in), got)
			}
		}
		var want []string
		if kind == api.KTypeOf || kind == api.KImpl {
			want = []string{"p::a"}
		}
		if got := signature.Needs(tree(kind, "p::a", 0)); !slices.Equal(got, want) {
			t.Errorf("the kind %d alone: %q", kind, got)
		}
	}
}

// Texts are compared as strings of bytes.
func TestNeedsOfAnyBytes(t *testing.T) {
	texts := []string{"::\xff", "::\x00", "::", "::\x80", "::a\n", "::é", "::A", "\x00::", "::a", "::Z", " ::"}
	in := tree(api.KModule, "", 0)
	for i, text := range texts {
		in.Kids = append(in.Kids, tree([]int{api.KTypeOf, api.KImpl}[i%2], text, 0))
	}
	slices.Sort(texts)
	if got := signature.Needs(in); !slices.Equal(got, texts) {
		t.Errorf("%q", got)
	}
}
