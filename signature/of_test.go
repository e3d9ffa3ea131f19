package signature_test

import (
	"strings"
	"testing"

	"recompile/api"
	"recompile/signature"
)

// signatureCase is a tree with what the signature of p::d is for it.
type signatureCase struct{ tree, want string }

func checkOf(t *testing.T, cases []signatureCase) {
	t.Helper()
	for _, c := range cases {
		if got := showSig(signature.Of("p::d", of(c.tree))); got != c.want {
			t.Errorf("%s:\n%s, not\n%s", c.tree, got, c.want)
		}
	}
}

func TestSignaturesOfItems(t *testing.T) {
	for _, c := range []signatureCase{
		{"const d: int = 1;", "const -> int"},
		{"const d: P<L<int>, none> = c;", "const -> p::P<p::L<int>, error>"},
		{"fn d() {}", "fn -> unit"},
		{"fn d(x: int, y: L<bool>) -> R { x }", "fn (int, p::L<bool>) -> p::R"},
		{"fn d<T: Show, V>(x: T, y: P<T, V>, x: T<int>) -> L<T> { x }", "fn <T: p::Show, V> ($T, p::P<$T, $V>, error) -> p::L<$T>"},
		{"fn d<T: none, V: two>() -> two { }", "fn <T: none, V: two> -> error"},
		{"type d {}", "record -> p::d"},
		{"type d { a: int, b: d, c: R }", "record [a, b, c] (int, error, p::R) -> p::d"},
		{"type d<T, V: Show, T> { x: T, y: P<V, T>, x: int }", "record <T, V: p::Show, T> [x, y, x] ($T, p::P<$V, $T>, int) -> p::d<$T, $V, $T>"},
		{"trait d {}", "trait"},
		{"trait d { fn m(s: Self); fn k() -> int; fn m(); }", "trait [m, k, m]"},
		{"trait d: Show + S + none {}", "trait [:p::Show, :p::S, :none]"},
		{"trait d: S + S { fn m(s: Self); fn a(); }", "trait [m, a, :p::S, :p::S]"},
		{"macro d(x, y) = x + y;", "macro"},
		{"macro d() = 1;", "macro"},
		{"impl Show for int {}", "impl (int) of p::Show"},
		{"impl<T: Show, V> Show for P<T, V> { fn m(s: P<T, V>) {} fn a() -> int { 1 } fn m() {} }", "impl <T: p::Show, V> [m, a, m] (p::P<$T, $V>) of p::Show"},
		{"impl none for two { fn m() {} }", "impl [m] (error) of none"},
		{"use p;", "none"},
		{"pub use p;", "none"},
	} {
		if got := showSig(signature.Of("p::d", resolved(t, c.tree))); got != c.want {
			t.Errorf("%s:\n%s, not\n%s", c.tree, got, c.want)
		}
	}
}

func TestSignatureOfTheExample(t *testing.T) {
	got := signature.Of("p::f", of("fn f(params(param T(name a::Show)), args(arg x@0(type $T)), type int, block)"))
	want := api.Signature{Kind: api.SigFn, Params: []api.Param{{Name: "T", Bound: "a::Show"}}, Args: []api.Type{{Name: "$T"}}, Result: api.Type{Name: "int"}}
	if exact(got) != exact(want) {
		t.Errorf("%s", showSig(got))
	}
}

func TestConst(t *testing.T) {
	checkOf(t, []signatureCase{
		{"const d(type int, int 1)", "const -> int"},
		{"const d(type p::L(type $T), bad)", "const -> p::L<$T>"},
		{"const(type int)", "const -> int"},
		{"const d", "const -> error"},
		{"const d(name int, type int)", "const -> error"},
		{"const d(params(param T), args(arg x(type int)), type int)", "const -> error"},
		{"const d(type bool, type int, params(param T), args(arg x(type int)), name p::S, fn f, sig m, supers(name q))", "const -> bool"},
	})
}

func TestFn(t *testing.T) {
	checkOf(t, []signatureCase{
		// as it should be
		{"fn d(params, args, type unit, block)", "fn -> unit"},
		{"fn d(params(param T, param U(name p::S)), args(arg x@0(type $T), arg y@1(type p::L(type int, type $U))), type p::R, block(unit))", "fn <T, U: p::S> ($T, p::L<int, $U>) -> p::R"},
		{"fn d(params(param T, param T(name p::S)), args(arg x@0(type int), arg x@1(type int)), type bool, block)", "fn <T, T: p::S> (int, int) -> bool"},
		// Kids are missing
		{"fn d", "fn -> error"},
		{"fn d(params(param T))", "fn <T> -> error"},
		{"fn d(params(param T), args(arg x(type int)))", "fn <T> (int) -> error"},
		{"fn d(params(param T), args(arg x(type int)), type int)", "fn <T> (int) -> int"},
		{"fn d(args(arg x(type int)), type int)", "fn -> error"},
		{"fn d(zero, zero, type int)", "fn -> int"},
		// Kids of other Kinds at their places
		{"fn d(args(param T, arg x(type bool)), params(param U, arg y(type int)), type int)", "fn <T> (int) -> int"},
		{"fn d(zero(param T), zero(arg x(type bool)), zero(type bool))", "fn <T> (bool) -> error"},
		{"fn d(block(param T(name q)), param A(arg x(type bool), param B), arg a(type bool))", "fn <T: q> (bool) -> error"},
		{"fn d(type int, type int, name int)", "fn -> error"},
		// other Kids among them
		{"fn d(params(name a, param T, arg b(type int), zero, params(param Z), param U), args(name a, arg x(type int), param b, type bool, args(arg y(type bool)), arg z(type unit)), type int)", "fn <T, U> (int, unit) -> int"},
		// too many
		{"fn d(params(param T), args(arg x(type int)), type int, block, params(param U), args(arg y(type bool)), type bool, name p::S, fn g, sig m, supers(name q))", "fn <T> (int) -> int"},
		{"fn d(params, args, type int, params(param U), args(arg y(type bool)))", "fn -> int"},
	})
}

func TestParams(t *testing.T) {
	for _, c := range []struct{ param, want string }{
		{"param T", "T"},
		{"param", ""},
		{"param $T", "$T"},
		{"param T@1", "T@1"},
		{"param T(name p::S)", "T: p::S"},
		{"param T(name S)", "T: S"},
		{"param T(name x@1)", "T: x@1"},
		{"param T(name)", "T"},
		{"param T(name p::A, name p::B)", "T: p::A"},
		// a first Kid that is no KName
		{"param T(type p::S)", "T"},
		{"param T(global p::S)", "T"},
		{"param T(local x@1)", "T"},
		{"param T(bad p::S)", "T"},
		{"param T(zero p::S)", "T"},
		{"param T(param p::S)", "T"},
		{"param T(type p::S, name p::B)", "T"},
		{"param T(zero(name p::B))", "T"},
	} {
		for i, text := range []string{"fn d(params(%), zero, type int)", "record d(params(param A, %, param B))", "impl p::S(params(%, param Z), type int)"} {
			rest := strings.Trim(c.want, "$")
			if i == 1 {
				rest = "$" + c.want[:strings.Index(c.want+":", ":")]
			}
			want := []string{"fn <%> -> int", "record <A, %, B> -> p::d<$A, " + rest + ", $B>", "impl <%, Z> (int) of p::S"}[i]
			checkOf(t, []signatureCase{{strings.ReplaceAll(text, "%", c.param), strings.ReplaceAll(want, "%", c.want)}})
		}
	}
}

func TestArgs(t *testing.T) {
	for _, c := range []struct{ arg, name, want string }{
		{"arg x(type int)", "x", "int"},
		{"arg x@0(type int)", "x@0", "int"},
		{"arg(type p::L(type $T))", "", "p::L<$T>"},
		{"arg x(type int, type bool)", "x", "int"},
		{"arg x(type p::L(name x))", "x", "p::L<error>"},
		// without a type
		{"arg x", "x", "error"},
		{"arg x(name int, type int)", "x", "error"},
		{"arg x(zero)", "x", "error"},
		{"arg x(arg y(type int))", "x", "error"},
	} {
		checkOf(t, []signatureCase{
			{"fn d(params, args(" + c.arg + ", arg z(type unit)), type int)", "fn (" + c.want + ", unit) -> int"},
			{"record d(params, args(arg a(type unit), " + c.arg + "))", "record [a, " + c.name + "] (unit, " + c.want + ") -> p::d"},
			{"sig d(args(" + c.arg + "), type int, name p::S)", "method <Self: p::S> (" + c.want + ") -> int of p::S"},
		})
	}
}

func TestRecord(t *testing.T) {
	checkOf(t, []signatureCase{
		// as it should be
		{"record d(params, args)", "record -> p::d"},
		{"record d(params(param T, param U(name p::S)), args(arg a(type $U), arg b(type p::L(type $T))))", "record <T, U: p::S> [a, b] ($U, p::L<$T>) -> p::d<$T, $U>"},
		{"record e(params(param T, param T), args(arg a(type int), arg a(type bool)))", "record <T, T> [a, a] (int, bool) -> p::d<$T, $T>"},
		// Kids are missing
		{"record d", "record -> p::d"},
		{"record d(params(param T))", "record <T> -> p::d<$T>"},
		{"record d(args(arg a(type int)))", "record -> p::d"},
		{"record d(zero, args(arg a(type int)))", "record [a] (int) -> p::d"},
		// Kids of other Kinds at their places, and others among them
		{"record d(args(param T, arg x(type bool)), params(param U, arg y(type int)))", "record <T> [y] (int) -> p::d<$T>"},
		{"record d(type int(param T, name U), block(name a, arg y(type int), param z, sig m, fn f, arg w, zero))", "record <T> [y, w] (int, error) -> p::d<$T>"},
		// too many
		{"record d(params(param T), args(arg a(type int)), type int, params(param U), args(arg b(type int)), name p::S, fn g, sig m, supers(name q))", "record <T> [a] (int) -> p::d<$T>"},
	})
	for _, def := range []string{"p::d", "", "d", "p::a::b", "$T", "a<b"} {
		got := signature.Of(def, of("record d(params(param T))"))
		if exactType(got.Result) != exactType(api.Type{Name: def, Args: []api.Type{{Name: "$T"}}}) {
			t.Errorf("of %q: %s", def, showSig(got))
		}
	}
}

func TestTrait(t *testing.T) {
	checkOf(t, []signatureCase{
		// as it should be
		{"trait d(supers)", "trait"},
		{"trait d(supers, sig m(args, type int), sig a(args(arg s(type $Self)), type int))", "trait [m, a]"},
		{"trait d(supers(name p::B, name p::A))", "trait [:p::B, :p::A]"},
		{"trait d(supers(name p::B, name S, name p::B), sig m, sig a, sig m)", "trait [m, a, m, :p::B, :S, :p::B]"},
		// Kids are missing
		{"trait d", "trait"},
		{"trait d(sig m)", "trait [m]"},
		{"trait d(sig, sig)", "trait [, ]"},
		{"trait d(supers(name))", "trait [:]"},
		// several KSupers, behind the KSigs or before them
		{"trait d(supers(name a), sig m, supers(name b, name c), sig k, supers, supers(name a))", "trait [m, k, :a, :b, :c, :a]"},
		{"trait d(sig m, supers(name a))", "trait [m, :a]"},
		// other Kids among them
		{"trait d(params(name x, sig y), args(arg z(name u)), type int, name p::S, sig m, fn f, impl p::S, zero(name v), const c)", "trait [m]"},
		{"trait d(supers(type a, name b, sig m, zero c, local e@0, global p::g, bad h, supers(name i), name j), fn f, sig k(sig l, supers(name n)))", "trait [k, :b, :j]"},
		{"trait d(module(sig m, supers(name a)))", "trait"},
	})
}

func TestMethod(t *testing.T) {
	checkOf(t, []signatureCase{
		// as it should be
		{"sig d(args, type unit, name p::S)", "method <Self: p::S> -> unit of p::S"},
		{"sig d(args(arg s(type $Self), arg x(type p::L(type $Self))), type $Self, name p::S)", "method <Self: p::S> ($Self, p::L<$Self>) -> $Self of p::S"},
		{"sig d(args, type unit, name none)", "method <Self: none> -> unit of none"},
		{"sig d(args, type unit, name)", "method <Self> -> unit"},
		// Kids are missing
		{"sig d", "method <Self> -> error"},
		{"sig d(args(arg x(type int)))", "method <Self> (int) -> error"},
		{"sig d(args(arg x(type int)), type bool)", "method <Self> (int) -> bool"},
		{"sig d(args(arg x(type int)), name p::S)", "method <Self: p::S> (int) -> error of p::S"},
		{"sig d(name p::S)", "method <Self: p::S> -> error of p::S"},
		{"sig d(name p::S(arg x(type int)))", "method <Self: p::S> (int) -> error of p::S"},
		// Kids of other Kinds at their places
		{"sig d(type int, args(arg x(type int)), name p::S)", "method <Self: p::S> -> error of p::S"},
		{"sig d(params(param T, name y, arg x(type int), zero, args(arg z(type unit)), arg y(type bool)), type int, name p::S)", "method <Self: p::S> (int, bool) -> int of p::S"},
		{"sig d(args, type int, type p::S)", "method <Self> -> int"},
		{"sig d(args, type int, global p::S)", "method <Self> -> int"},
		{"sig d(args, type int, local x@0)", "method <Self> -> int"},
		{"sig d(args, type int, bad p::S)", "method <Self> -> int"},
		{"sig d(args, type int, zero(name p::S))", "method <Self> -> int"},
		// too many
		{"sig d(args, type int, name p::A, name p::B)", "method <Self: p::B> -> int of p::B"},
		{"sig d(args, type int, name p::A, type bool)", "method <Self> -> int"},
		{"sig d(args(arg x(type int)), type int, params(param T), args(arg y(type bool)), fn f, sig m, supers(name q), name p::B)", "method <Self: p::B> (int) -> int of p::B"},
	})
}

func TestMacro(t *testing.T) {
	checkOf(t, []signatureCase{
		{"macro d(args(name x, name y), binary +(name x, name y))", "macro"},
		{"macro d", "macro"},
		{"macro d(params(param T(name p::S)), args(arg x(type int)), type int, name p::S, fn f, sig m, supers(name q))", "macro"},
		{"macro d(type p::R)", "macro"},
	})
}

func TestImpl(t *testing.T) {
	checkOf(t, []signatureCase{
		// as it should be
		{"impl p::S(params, type int)", "impl (int) of p::S"},
		{"impl p::S(params(param T(name p::S), param U), type p::P(type $T, type $U), fn m(params, args(arg s@0(type int)), type int, block), fn a, fn m)", "impl <T: p::S, U> [m, a, m] (p::P<$T, $U>) of p::S"},
		{"impl none(params, type int)", "impl (int) of none"},
		{"impl(params, type int)", "impl (int)"},
		// Kids are missing
		{"impl p::S", "impl (error) of p::S"},
		{"impl p::S(params(param T))", "impl <T> (error) of p::S"},
		{"impl p::S(type int)", "impl (error) of p::S"},
		{"impl p::S(zero, type int)", "impl (int) of p::S"},
		// Kids of other Kinds at their places
		{"impl p::S(args(param T, arg x(type int)), args(arg y(type int)))", "impl <T> (error) of p::S"},
		{"impl p::S(fn a(param T(name p::S)), fn b(params(param U), type int), fn c)", "impl <T: p::S> [a, b, c] (error) of p::S"},
		{"impl p::S(block, name int, fn f)", "impl [f] (error) of p::S"},
		// other Kids among them, and too many
		{"impl p::S(params(param T), type int, fn a, params(param U), type bool, args(arg x(type int)), sig m, const c, name p::B, supers(name q), fn b(fn c), impl p::Z(fn e), block(fn f))", "impl <T> [a, b] (int) of p::S"},
	})
}

// A tree of another kind has the zero signature, whatever is below it.
func TestSignaturesOfOtherKinds(t *testing.T) {
	kids := of("module(params(param T(name p::S)), args(arg x(type int)), type int, block, fn f, sig m, supers(name q), name p::S)").Kids
	for kind := -3; kind <= 50; kind++ {
		switch kind {
		case api.KConst, api.KFn, api.KType, api.KTrait, api.KSig, api.KMacro, api.KImpl:
			continue
		}
		for _, in := range []api.Tree{{Kind: kind}, {Kind: kind, Text: "d", At: 3}, {Kind: kind, Text: "p::d", Kids: kids}, {Kind: kind, Kids: []api.Tree{of("fn f(params, args, type int)")}}} {
			if got := signature.Of("p::d", in); exact(got) != exact(api.Signature{}) {
				t.Errorf("%s: %s", show(in), showSig(got))
			}
		}
	}
}
