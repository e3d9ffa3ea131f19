package resolve_test

import (
	"strings"
	"testing"

	"recompile/api"
	"recompile/macros"
	"recompile/modules"
	"recompile/parser"
	"recompile/resolve"
	"recompile/shape"
)

// module is what is known of a module p that uses a module q.
type module struct {
	items []api.Tree
	binds []api.Bind
}

// moduleOf reads a module p that uses q, which has the names List, Show, h and twice.
func moduleOf(t *testing.T, text string) module {
	t.Helper()
	items, errors := parser.Module(text)
	if len(errors) != 0 {
		t.Fatalf("errors at %v", errors)
	}
	q := modules.Step("q", []string{"List", "Show", "h", "twice"}, nil)
	r := modules.Step("r", []string{"twice"}, nil)
	return module{items, modules.Step("p", modules.Names(items), [][]api.Bind{q, r})}
}

// resolved returns what a definition of the module becomes, with the diagnostics of its expansion before those of its names.
func (m module) resolved(t *testing.T, name string) string {
	t.Helper()
	def, ok := modules.Item(m.items, name)
	if !ok {
		t.Fatalf("there is no %s", name)
	}
	var known []api.Macro
	for _, x := range m.items {
		if x.Kind == api.KMacro {
			known = append(known, macros.Prepare("p::"+x.Text, x, m.binds))
		}
	}
	expanded := macros.Expand(shape.Number(def), m.binds, known)
	got := resolve.Resolve(expanded.Tree, m.binds)
	return show(got.Tree) + " / " + showDiags(append(expanded.Diags, got.Diags...))
}

func TestDefinitionsOfModules(t *testing.T) {
	m := moduleOf(t, `use q;
		const one: int = h(1);
		fn f<T: Show>(x: T, h: int) -> List<T> { let one = one + h; h(one, twice, new Rec(x)) }
		type Rec<T> { a: T, r: Rec<T>, s: Lost }
		trait Small: Show + Big { fn m(s: Self) -> List<Self>; }
		trait Big { }
		impl<T: Big> Small for List<T> { fn m(s: List<T>) -> T { m(s, T) } }
		macro add(a) = { let x = a; x + one + none };
		fn g(x: int) -> int { add!(x) + add!({ let x = 2; x = x; x }) + lost!(x) }
		macro set(a) = { a = 1; x = 2; a };
		fn k(x: int) -> int { set!(x) }`)
	for name, want := range map[string]string{
		"one":                      "const one(type int, call q::h(int 1)) / ",
		"f":                        "fn f(params(param T(name q::Show)), args(arg x@0(type $T), arg h@1(type int)), type q::List(type $T), block(let one@2(binary +(global p::one, local h@1)), call q::h(local one@2, bad twice, new p::Rec(local x@0)))) / 5@18 twice",
		"Rec":                      "record Rec(params(param T), args(arg a(type $T), arg r(type p::Rec(type $T)), arg s(type error))) / 4@10 Lost",
		"Small":                    "trait Small(supers(name q::Show, name p::Big), sig m(args(arg s(type $Self)), type q::List(type $Self))) / ",
		"m":                        "sig m(args(arg s(type $Self)), type q::List(type $Self), name p::Small) / ",
		"impl Small for List[T]":   "impl p::Small(params(param T(name p::Big)), type q::List(type $T), fn m(params, args(arg s@0(type q::List(type $T))), type $T, block(call p::m(local s@0, bad T)))) / 4@16 T",
		"impl Small for List[T].m": "fn m(params(param T(name p::Big)), args(arg s@0(type q::List(type $T))), type $T, block(call p::m(local s@0, bad T))) / 4@12 T",
		"add":                      "macro add(args(name a), block(let x(name a), binary +(binary +(name x, name one), name none))) / ",
		"g": "fn g(params, args(arg x@0(type int)), type int, block(binary +(binary +(" +
			"block(let x#1@1(local x@0), binary +(binary +(local x#1@1, global p::one), bad ::none)), " +
			"block(let x#2@2(block(let x@3(int 2), assign x@3(local x@3), local x@3)), binary +(binary +(local x#2@2, global p::one), bad ::none))), bad lost))) / 4@18 lost, 4@9 ::none, 4@11 ::none",
		"k": "fn k(params, args(arg x@0(type int)), type int, block(block(do(int 1), do(int 2), local x@0))) / 4@7 ::a, 4@7 ::x",
	} {
		if got := m.resolved(t, name); got != want {
			t.Errorf("%s: %s", name, got)
		}
	}
}

// Variables of macros stay those of one expansion.
func TestVariablesOfExpansions(t *testing.T) {
	m := moduleOf(t, `use q;
		macro two(a, b) = { let x = a; { let x = b; x } + x };
		fn f(x: int) -> int { two!(two!(x, 1), x) }`)
	want := "fn f(params, args(arg x@0(type int)), type int, block(block(" +
		"let x#1@1(block(let x#2@2(local x@0), binary +(block(let x#2@3(int 1), local x#2@3), local x#2@2))), " +
		"binary +(block(let x#1@4(local x@0), local x#1@4), local x#1@1)))) / "
	if got := m.resolved(t, "f"); got != want {
		t.Errorf("%s", strings.TrimSpace(got))
	}
}
