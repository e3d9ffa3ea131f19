package lower_test

import (
	"slices"
	"strings"
	"testing"

	"recompile/api"
	"recompile/infer"
	"recompile/lower"
	"recompile/macros"
	"recompile/modules"
	"recompile/parser"
	"recompile/resolve"
	"recompile/shape"
	"recompile/signature"
	"recompile/traits"
	"recompile/types"
)

// program is a module p after inference.
type program struct {
	items   []api.Tree
	typed   map[string]api.Inferred // by the definition
	known   []api.Known
	headers []api.Header
}

// compile returns the module p with a text.
func compile(t *testing.T, text string) program {
	t.Helper()
	items, errors := parser.Module(text)
	if len(errors) > 0 {
		t.Fatalf("%s has errors at %v", text, errors)
	}
	p := program{items: items, typed: map[string]api.Inferred{}}
	binds := modules.Step("p", modules.Names(items), nil)
	var known []api.Macro
	for _, name := range modules.Names(items) {
		if item, _ := modules.Item(items, name); item.Kind == api.KMacro {
			known = append(known, macros.Prepare("p::"+name, item, binds))
		}
	}
	resolved := map[string]api.Tree{}
	for _, name := range modules.Names(items) {
		item, _ := modules.Item(items, name)
		tree := resolve.Resolve(macros.Expand(shape.Number(item), binds, known).Tree, binds).Tree
		resolved["p::"+name] = tree
		p.known = append(p.known, api.Known{Def: "p::" + name, Sig: signature.Of("p::"+name, tree)})
	}
	for _, k := range p.known {
		p.typed[k.Def] = infer.Body(resolved[k.Def], p.known)
		if k.Sig.Kind == api.SigImpl {
			p.headers = append(p.headers, api.Header{Def: k.Def, Params: k.Sig.Params, Trait: k.Sig.Trait, Type: k.Sig.Args[0]})
		}
	}
	return p
}

func (p program) signature(def string) api.Signature {
	i := slices.IndexFunc(p.known, func(k api.Known) bool { return k.Def == def })
	if i < 0 {
		return api.Signature{}
	}
	return p.known[i].Sig
}

// target returns what a call of an instance calls.
func (p program) target(x api.Type) api.Type {
	sig := p.signature(x.Name)
	if !strings.Contains(x.Name, "::") || sig.Kind != api.SigMethod {
		return x
	}
	impls := slices.DeleteFunc(slices.Clone(p.headers), func(h api.Header) bool { return h.Trait != sig.Trait })
	i, args, ok := traits.Select(impls, append(x.Args, ty("error"))[0])
	if !ok {
		return ty("error")
	}
	return ty(impls[i].Def+"."+strings.TrimPrefix(x.Name, "p::"), args...)
}

// code returns the code of an instance, and what it calls.
func (p program) code(x api.Type) (api.Code, []api.Type) {
	tree := p.typed[x.Name].Tree
	var names []string
	for _, param := range p.signature(x.Name).Params {
		names = append(names, param.Name)
	}
	var targets []api.Equation
	var calls []api.Type
	for _, c := range lower.Calls(tree, names, x.Args) {
		to := p.target(c)
		targets, calls = append(targets, api.Equation{A: c, B: to}), append(calls, to)
	}
	return lower.Body(tree, names, x.Args, targets), calls
}

const programText = `
	trait Show { fn show(s: Self) -> int; fn least() -> Self; }
	impl Show for int { fn show(s: int) -> int { print s; s } fn least() -> int { 0 } }
	impl<A: Show, B: Show> Show for Pair<A, B> { fn show(s: Pair<A, B>) -> int { let n = show(s.a); n + show(s.b) * 2 } fn least() -> Pair<A, B> { new Pair(least(), least()) } }
	type Pair<A, B> { a: A, b: B }
	const ten: int = { let i = 1; while i < 10 { i = i + i; } i - 6 };
	const pair: Pair<int, bool> = new Pair(ten, !true);
	macro larger(x, y) = { let a = x; let b = y; if a < b { b } else { a } };
	fn one() -> int { 1 + 2 }
	fn id<T>(x: T) -> T { x }
	fn swap<A, B>(p: Pair<A, B>) -> Pair<B, A> { new Pair(p.b, p.a) }
	fn both(a: bool, b: bool) -> bool { a && b || 0 < 1 }
	fn most(a: int, b: int) -> int { larger!(a, b) }
	fn most2<T: Show>(x: T, y: T) -> T { if show(x) < show(y) { y } else { x } }
	fn twice(p: Pair<int, int>) -> int { let q = swap(swap(p)); most2(q, least()).b }
	fn nothing() -> int { unknown }
	fn wrong(x: int) { let y = x.z; let z = unknown(x); print z + 1; bad!(1); }
	fn open() { let x = least(); }
	`

func TestProgram(t *testing.T) {
	p := compile(t, programText)
	for _, c := range []struct{ instance, code, calls string }{
		{"p::one", "0/3: r0 = 1, r1 = 2, r2 = r0 + r1, return r2", ""},
		{"p::id<int>", "1/2: r1 = r0, return r1", ""},
		{"p::id<p::Pair<int,bool>>", "1/2: r1 = r0, return r1", ""},
		{"p::ten", "0/12: r0 = 1, r1 = r0, r2 = r1, r3 = 10, r4 = r2 < r3, zero r4 12, r5 = r1, r6 = r1, r7 = r5 + r6, r1 = r7, r8 = 0, go 2, r9 = r1, r10 = 6, r11 = r9 - r10, return r11", ""},
		{"p::pair", "0/4: r0 = global p::ten, r1 = 1, r2 = !r1, r3 = new(r0 r2), return r3", ""},
		{"p::swap<int,bool>", "1/6: r1 = r0, r2 = r1.1, r3 = r0, r4 = r3.0, r5 = new(r2 r4), return r5", ""},
		{"p::both", "2/10: r2 = r0, r3 = r2, zero r3 5, r4 = r1, r3 = r4, r5 = r3, r6 = !r5, zero r6 12, r7 = 0, r8 = 1, r9 = r7 < r8, r5 = r9, return r5", ""},
		{"p::most", "2/12: r2 = r0, r3 = r2, r4 = r1, r5 = r4, r6 = r3, r7 = r5, r8 = r6 < r7, zero r8 11, r10 = r5, r9 = r10, go 13, r11 = r3, r9 = r11, return r9", ""},
		{"p::most2<int>", "2/10: r2 = r0, r3 = call p::impl Show for int.show(r2), r4 = r1, r5 = call p::impl Show for int.show(r4), r6 = r3 < r5, zero r6 9, r8 = r1, r7 = r8, go 11, r9 = r0, r7 = r9, return r7", "p::impl Show for int.show"},
		{"p::most2<p::Pair<int,int>>", "2/10: r2 = r0, r3 = call p::impl Show for Pair[A;B].show<int,int>(r2), r4 = r1, r5 = call p::impl Show for Pair[A;B].show<int,int>(r4), r6 = r3 < r5, zero r6 9, r8 = r1, r7 = r8, go 11, r9 = r0, r7 = r9, return r7", "p::impl Show for Pair[A;B].show<int,int>"},
		{"p::most2<bool>", "2/10: r2 = r0, r3 = call (r2), r4 = r1, r5 = call (r4), r6 = r3 < r5, zero r6 9, r8 = r1, r7 = r8, go 11, r9 = r0, r7 = r9, return r7", "error"},
		{"p::impl Show for int.show", "1/3: r1 = r0, print r1, r2 = r0, return r2", ""},
		{"p::impl Show for Pair[A;B].show<int,p::Pair<int,bool>>", "1/12: r1 = r0, r2 = r1.0, r3 = call p::impl Show for int.show(r2), r4 = r3, r5 = r4, r6 = r0, r7 = r6.1, r8 = call p::impl Show for Pair[A;B].show<int,bool>(r7), r9 = 2, r10 = r8 * r9, r11 = r5 + r10, return r11", "p::impl Show for int.show p::impl Show for Pair[A;B].show<int,bool>"},
		{"p::impl Show for Pair[A;B].least<int,int>", "0/3: r0 = call p::impl Show for int.least(), r1 = call p::impl Show for int.least(), r2 = new(r0 r1), return r2", "p::impl Show for int.least"},
		{"p::twice", "1/9: r1 = r0, r2 = call p::swap<int,int>(r1), r3 = call p::swap<int,int>(r2), r4 = r3, r5 = r4, r6 = call p::impl Show for Pair[A;B].least<int,int>(), r7 = call p::most2<p::Pair<int,int>>(r5 r6), r8 = r7.1, return r8", "p::impl Show for Pair[A;B].least<int,int> p::most2<p::Pair<int,int>> p::swap<int,int>"},
		{"p::nothing", "0/1: r0 = global, return r0", ""},
		{"p::wrong", "1/10: r1 = global, r2 = r1, r3 = global, r4 = r3, r5 = r4, r6 = 1, r7 = r5 + r6, print r7, r8 = global, r9 = 0, return r9", ""},
		{"p::open", "0/3: r0 = call (), r1 = r0, r2 = 0, return r2", "error"},
		{"p::Pair", "0/1: r0 = global, return r0", ""}, {"p::Show", "0/1: r0 = global, return r0", ""}, {"p::show", "0/1: r0 = global, return r0", ""}, {"p::larger", "0/1: r0 = global, return r0", ""}, {"p::none", "0/1: r0 = global, return r0", ""},
	} {
		x, _ := types.Parse(c.instance)
		code, calls := p.code(x)
		checkWays(t, programText, c.instance, code)
		var texts []string
		for _, to := range calls {
			texts = append(texts, showType(to))
		}
		if showCode(code) != c.code || strings.Join(texts, " ") != c.calls {
			t.Errorf("%s became\n%s\nand calls %s, wanted\n%s\nand %s", c.instance, showCode(code), strings.Join(texts, " "), c.code, c.calls)
		}
	}
}
