package macros_test

import (
	"slices"
	"testing"

	"recompile/api"
	"recompile/macros"
)

// roomy returns a list with an element behind it, which an append to the list would write over.
func roomy[T any](l []T, behind T) []T {
	return append(append(make([]T, 0, len(l)+4), l...), behind)[:len(l)]
}

// spoil writes over a list and all that it has room for.
func spoil[T any](l []T, over T) {
	l = l[:cap(l)]
	for i := range l {
		l[i] = over
	}
}

// roomyTree returns a tree whose kids have room behind them, with a node there.
func roomyTree(t api.Tree) api.Tree {
	var kids []api.Tree
	for _, k := range t.Kids {
		kids = append(kids, roomyTree(k))
	}
	t.Kids = roomy(kids, tree(api.KBad, "behind", 9))
	return t
}

// isBehind reports whether there is still the node behind the kids of all nodes.
func isBehind(t api.Tree) bool {
	behind := t.Kids[:len(t.Kids)+1][len(t.Kids)]
	return show(behind) == "bad behind@9" && !slices.ContainsFunc(t.Kids, func(k api.Tree) bool { return !isBehind(k) })
}

// spoilTree changes all that a tree has, and what its kids have room for.
func spoilTree(t api.Tree) {
	for _, k := range t.Kids {
		spoilTree(k)
	}
	spoil(t.Kids, tree(api.KBad, "spoilt", -7))
}

var (
	overBind  = api.Bind{Name: "over", Def: "written"}
	overMacro = api.Macro{Def: "over"}
	overDiag  = api.Diag{Code: 99, Text: "over"}
)

// arguments are those of Expand and Needs, with room behind all lists.
type arguments struct {
	tree   api.Tree
	binds  []api.Bind
	macros []api.Macro
}

func roomyArguments(t *testing.T, text string) arguments {
	t.Helper()
	var l []api.Macro
	for _, m := range given(t) {
		l = append(l, api.Macro{Def: m.Def, Params: roomy(m.Params, "behind"), Body: roomyTree(m.Body)})
	}
	return arguments{roomyTree(expr(t, text)), roomy(binds(here), overBind), roomy(l, overMacro)}
}

// check tests that the arguments are as they were.
func (a arguments) check(t *testing.T, text, after string) {
	t.Helper()
	good := show(a.tree) == show(expr(t, text)) && isBehind(a.tree)
	good = good && slices.Equal(a.binds, binds(here)) && a.binds[:len(a.binds)+1][len(a.binds)] == overBind
	good = good && len(a.macros) == len(given(t)) && a.macros[:len(a.macros)+1][len(a.macros)].Def == "over"
	for i, m := range given(t) {
		got := a.macros[i]
		good = good && showMacro(got) == showMacro(m) && isBehind(got.Body) && got.Params[:len(got.Params)+1][len(got.Params)] == "behind"
	}
	if !good {
		t.Errorf("%s: after %s the arguments are others", text, after)
	}
}

func (a arguments) spoil() {
	spoilTree(a.tree)
	spoil(a.binds, overBind)
	for _, m := range a.macros {
		spoilTree(m.Body)
		spoil(m.Params, "spoilt")
	}
	spoil(a.macros, overMacro)
}

// texts are exprs in which arguments and Bodies come never, once and several times.
func texts() []string {
	return []string{
		"1", "f(x, { let y = x; y })", "zero!()", "id!(f(a, b))", "id!(id!(f(a)))", "first!(f(a), f(b))", "twice!(f(a, -b))", "twice!(twice!(f(a)))", "var!(f(v))", "both!(f(1))",
		"again!(f(x)) + again!(var!(f(y)))", "deep!(f(a)) + off!()", "none!(f(a)) + two!(f(b)) + some!(f(c)) + id!(f(a), f(b))", "fun!(f(a)) + fun!(f(b))", "in!(in!(f(a)))", "{ zero!(); some!() }",
	}
}

func TestExpandSharesNothing(t *testing.T) {
	for _, text := range texts() {
		a := roomyArguments(t, text)
		got := macros.Expand(a.tree, a.binds, a.macros)
		tree, diags := show(got.Tree), slices.Clone(got.Diags)
		a.check(t, text, "Expand")
		other := macros.Expand(a.tree, a.binds, a.macros)
		spoilTree(other.Tree)
		spoil(other.Diags, overDiag)
		a.check(t, text, "a change of the result")
		a.spoil()
		if show(got.Tree) != tree || !slices.Equal(got.Diags, diags) {
			t.Errorf("%s: the result shares memory with another one, or with the arguments", text)
		}
	}
}

// An argument and a Body that come several times in a tree are there several times.
func TestThePartsOfATreeShareNothing(t *testing.T) {
	for _, text := range texts() {
		got := macros.Expand(expr(t, text), binds(here), given(t)).Tree
		for i, k := range got.Kids {
			rest := shows(got.Kids[i+1:])
			spoilTree(k)
			if shows(got.Kids[i+1:]) != rest {
				t.Errorf("%s: the parts of the tree share memory", text)
			}
		}
	}
}

func TestNeedsSharesNothing(t *testing.T) {
	for _, text := range texts() {
		a := roomyArguments(t, text)
		a.macros = roomy(a.macros[:0:0], overMacro)
		got := macros.Needs(a.tree, a.binds, a.macros)
		want := slices.Clone(got)
		spoil(macros.Needs(a.tree, a.binds, a.macros), "spoilt")
		a.spoil()
		if !slices.Equal(got, want) {
			t.Errorf("%s: the result shares memory: %q", text, got)
		}
		a = roomyArguments(t, text)
		macros.Needs(a.tree, a.binds, a.macros)
		a.check(t, text, "Needs")
	}
}

func TestPrepareSharesNothing(t *testing.T) {
	for _, text := range []string{"macro m() = 1;", "macro m(x) = x;", "macro m(x, y) = f(x, { let z = y; z = w; new T(z, n!(x)) });", "macro m(x, x) = { y = x; };", "fn f() { x }"} {
		in, b := roomyTree(item(t, text)), roomy(binds(known), overBind)
		check := func(after string) {
			t.Helper()
			if show(in) != show(item(t, text)) || !isBehind(in) || !slices.Equal(b, binds(known)) || b[:len(b)+1][len(b)] != overBind {
				t.Errorf("%s: after %s the arguments are others", text, after)
			}
		}
		got := macros.Prepare("p::m", in, b)
		want := showMacro(got)
		check("Prepare")
		other := macros.Prepare("p::m", in, b)
		spoilTree(other.Body)
		spoil(other.Params, "spoilt")
		check("a change of the result")
		spoilTree(in)
		spoil(b, overBind)
		if showMacro(got) != want {
			t.Errorf("%s: the result shares memory with another one, or with the arguments", text)
		}
	}
}

// No state is kept: a call returns the same after others, also the numbers of expansions.
func TestCallsDoNotDependOnOthers(t *testing.T) {
	text := "var!(1) + twice!(both!(2)) + some!(3)"
	want := show(macros.Expand(expr(t, text), binds(here), given(t)).Tree)
	needs := macros.Needs(expr(t, text), binds(here), nil)
	for range 20 {
		macros.Expand(expr(t, "both!(none!()) + id!()"), binds(here), nil)
		macros.Needs(expr(t, "var!(1) + zero!()"), nil, given(t))
		macros.Prepare("p::x", item(t, "macro m(x) = { let v = x; v };"), nil)
		if got := show(macros.Expand(expr(t, text), binds(here), given(t)).Tree); got != want {
			t.Fatalf("after other calls: %s", got)
		}
		if got := macros.Needs(expr(t, text), binds(here), nil); !slices.Equal(got, needs) {
			t.Fatalf("after other calls: %q", got)
		}
	}
}
