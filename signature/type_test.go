package signature_test

import (
	"testing"

	"recompile/api"
	"recompile/signature"
)

func TestType(t *testing.T) {
	for _, c := range []struct{ tree, want string }{
		// without Kids
		{"type int", "int"},
		{"type unit", "unit"},
		{"type $T", "$T"},
		{"type $Self", "$Self"},
		{"type p::R", "p::R"},
		{"type error", "error"},
		{"type ?0", "?0"},
		{"type x@0", "x@0"},
		{"type", ""},
		// with Kids
		{"type p::L(type int)", "p::L<int>"},
		{"type p::P(type int, type $T)", "p::P<int, $T>"},
		{"type p::P(type $T, type int, type $T, type p::R)", "p::P<$T, int, $T, p::R>"},
		{"type p::L(type p::L(type p::P(type a, type b)), type c)", "p::L<p::L<p::P<a, b>>, c>"},
		{"type int(type bool)", "int<bool>"},
		{"type $T(type $U)", "$T<$U>"},
		{"type error(type int)", "error<int>"},
		{"type(type, type(type))", "<, <>>"},
		// Kids that are no KTypeOf
		{"type p::L(name int)", "p::L<error>"},
		{"type p::P(name x, type int)", "p::P<error, int>"},
		{"type p::P(type int, arg x(type int))", "p::P<int, error>"},
		{"type p::P(zero, type p::L(param T(type int), zero), bad)", "p::P<error, p::L<error, error>, error>"},
	} {
		got := signature.Type(of(c.tree))
		if showType(got) != c.want {
			t.Errorf("%s: %s, not %s", c.tree, showType(got), c.want)
		}
	}
}

// Names of any form are taken as they are.
func TestTypeOfAnyText(t *testing.T) {
	for _, text := range []string{"a<b>", ",", "\x00\xff", " int ", "(", "é"} {
		got := signature.Type(tree(api.KTypeOf, text, 5, tree(api.KTypeOf, text+"1", -5)))
		if got.Name != text || len(got.Args) != 1 || got.Args[0].Name != text+"1" || len(got.Args[0].Args) != 0 {
			t.Errorf("%q: %v", text, got)
		}
	}
}

func TestTypeOfOtherTrees(t *testing.T) {
	inner := of("type p::L(type int)")
	for kind := -3; kind <= 50; kind++ {
		if kind == api.KTypeOf {
			continue
		}
		for _, in := range []api.Tree{{Kind: kind}, {Kind: kind, Text: "int", At: 3}, {Kind: kind, Text: "p::L", Kids: []api.Tree{inner, inner}}} {
			if got := signature.Type(in); got.Name != "error" || len(got.Args) != 0 {
				t.Errorf("%s: %s", show(in), showType(got))
			}
			in = tree(api.KTypeOf, "p::P", 0, inner, in, inner)
			if got := showType(signature.Type(in)); got != "p::P<p::L<int>, error, p::L<int>>" {
				t.Errorf("%s: %s", show(in), got)
			}
		}
	}
}
