package macros_test

import (
	"slices"
	"testing"

	"recompile/api"
	"recompile/macros"
)

func hasExpand(t api.Tree) bool {
	return slices.ContainsFunc(flat(t, 0), func(n node) bool { return n.kind == api.KExpand })
}

func TestExpandReturnsNoKExpand(t *testing.T) {
	d := &dice{74}
	n := 0
	for range 10000 {
		in := d.tree(1 + d.roll(6))
		if hasExpand(in) {
			n++
		}
		if got := macros.Expand(in, d.binds(), []api.Macro{d.macro(), d.macro(), d.macro()}); hasExpand(got.Tree) {
			t.Fatalf("%s: %s", show(in), show(got.Tree))
		}
	}
	if n < 4000 {
		t.Errorf("only %d trees have a KExpand", n)
	}
	b := binds("m=p::m")
	for _, text := range []string{"p::m(x) = m!(m!(x))", "p::m(x) = { m!(x); m!(1) + m!(2) }", "p::m(x) = none!(m!(x))", "p::m(x,y) = m!(x)", "p::m(x) = x"} {
		if got := macros.Expand(expr(t, "m!(m!(m!(1))) + m!(n!(m!()))"), b, prepared(t, b, text)); hasExpand(got.Tree) {
			t.Errorf("%s: %s", text, show(got.Tree))
		}
	}
}

// A tree without a KExpand stays as it is, and so does one that was expanded.
func TestExpandOfATreeWithoutAKExpand(t *testing.T) {
	d := &dice{75}
	for range 3000 {
		b, l := d.binds(), []api.Macro{d.macro(), d.macro()}
		once := macros.Expand(d.tree(1+d.roll(6)), b, l)
		twice := macros.Expand(once.Tree, b, l)
		if show(twice.Tree) != show(once.Tree) || len(twice.Diags) != 0 {
			t.Fatalf("%s became %s, with %s", show(once.Tree), show(twice.Tree), showDiags(twice.Diags))
		}
		if needs := macros.Needs(once.Tree, b, l); len(needs) != 0 {
			t.Fatalf("%s needs %q", show(once.Tree), needs)
		}
	}
}

// first returns the first macro with a Def.
func first(l []api.Macro, def string) (api.Macro, bool) {
	i := slices.IndexFunc(l, func(m api.Macro) bool { return m.Def == def })
	if i < 0 {
		return api.Macro{}, false
	}
	return l[i], true
}

// calls returns a tree of KExpands, whose names are those of definitions or of binds.
func (d *dice) calls(depth int, names ...string) api.Tree {
	if depth == 0 {
		return name(d.pick("x", "y"))
	}
	if d.roll(3) == 0 {
		return tree(api.KBinary, "+", 0, d.calls(depth-1, names...), d.calls(depth-1, names...))
	}
	return call(d.pick(names...), 1, d.calls(depth-1, names...))
}

func TestWithTheMacrosThatNeedsNamesAllAreFoundInGeneratedTrees(t *testing.T) {
	d := &dice{76}
	b := binds("a=p::a,b=p::b,c=p::c,d=p::d,e=p::e,f=p::f,g=p::g,g=p::h")
	defs := []string{"p::a", "p::b", "p::c", "p::d", "p::e", "p::f", "p::h", "::i"}
	several, without := 0, 0
	for range 2000 {
		in := d.calls(2+d.roll(3), "a", "b", "c", "d", "e", "f", "g", "z")
		var every []api.Macro
		for i, def := range defs {
			if d.roll(4) > 0 {
				every = append(every, api.Macro{Def: def, Params: []string{d.pick("x", "y")}, Body: d.calls(1+d.roll(2), append([]string{"::z"}, defs[i+1:]...)...)})
			}
		}
		l, asked := fetch(in, b, func(def string) (api.Macro, bool) { return first(every, def) })
		got, full := macros.Expand(in, b, l), macros.Expand(in, b, every)
		if show(got.Tree) != show(full.Tree) || !slices.Equal(got.Diags, full.Diags) {
			t.Fatalf("%s: with %q of %d macros %s, with all %s", show(in), asked, len(every), show(got.Tree), show(full.Tree))
		}
		for _, def := range macros.Needs(in, b, l) {
			if _, ok := first(every, def); ok || !slices.Contains(asked, def) {
				t.Fatalf("%s still needs %s", show(in), def)
			}
		}
		if len(l) > 2 {
			several++
		}
		if len(asked) > len(l) {
			without++
		}
	}
	if several < 200 || without < 500 {
		t.Errorf("%d trees need several macros, %d one that does not exist", several, without)
	}
}

// Two expansions have no variable in common, and none with the definition, whatever the names are.
func TestExpansionsHaveNoVariableInCommon(t *testing.T) {
	b := binds("m=p::m,n=p::n,o=p::o")
	l := prepared(t, b, "p::m(v) = { let x = v; let y = x; x + y }", "p::n(x) = { let y = m!(x); m!(y) }", "p::o(y) = { let x = y; n!(x) + m!(x) }")
	got := macros.Expand(expr(t, "{ let x = 1; let y = m!(x); let v = n!(y); o!(n!(v)) + o!(m!(y)) }"), b, l)
	seen := map[string]int{}
	for _, n := range flat(got.Tree, 0) {
		if n.kind == api.KLet {
			seen[n.text]++
		}
	}
	for text, n := range seen {
		if n != 1 {
			t.Errorf("%d variables are %s", n, text)
		}
	}
	// m and o have 2 and 1 of their own, n has 1; o is expanded twice, n 4 times and m 2 + 2*4 + 2 times.
	if len(got.Diags) != 0 || len(seen) != 3+2+4+2*12 {
		t.Errorf("%d variables, and %s", len(seen), showDiags(got.Diags))
	}
}
