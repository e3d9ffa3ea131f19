package resolve_test

import (
	"slices"
	"sync"
	"testing"

	"recompile/api"
	"recompile/resolve"
	"recompile/shape"
)

// roomy returns a list with an element behind it, which an append to the list would write over.
func roomy[T any](l []T, behind T) []T {
	return append(append(make([]T, 0, len(l)+4), l...), behind)[:len(l)]
}

// spoil writes over a list and all that it has room for.
func spoil[T any](l []T, over T) {
	l = l[:cap(l)]
	for i := range l {
		l[i] = over
	}
}

// roomyTree returns a tree whose kids have room behind them, with a node there.
func roomyTree(t api.Tree) api.Tree {
	var kids []api.Tree
	for _, k := range t.Kids {
		kids = append(kids, roomyTree(k))
	}
	t.Kids = roomy(kids, tree(api.KBad, "behind", 9))
	return t
}

// isBehind reports whether there is still the node behind the kids of all nodes.
func isBehind(t api.Tree) bool {
	behind := t.Kids[:len(t.Kids)+1][len(t.Kids)]
	return show(behind) == "bad behind" && !slices.ContainsFunc(t.Kids, func(k api.Tree) bool { return !isBehind(k) })
}

// spoilTree changes all that a tree has, and what its kids have room for.
func spoilTree(t api.Tree) {
	for _, k := range t.Kids {
		spoilTree(k)
	}
	spoil(t.Kids, tree(api.KBad, "spoilt", -7))
}

var (
	overBind = api.Bind{Name: "over", Def: "written"}
	overDiag = api.Diag{Code: 99, Text: "over"}
)

// trees are some in which nodes of each kind come, with what can become of them.
func trees(t *testing.T) []api.Tree {
	t.Helper()
	out := []api.Tree{{}, block(), fn(args("x"), args(), block(let("x"), name("x")), block(name("x"))), tree(api.KSig, "m", 0, args("a"), typeOf("Self"), name("S")), typeOf("none", typeOf("R"))}
	for _, text := range []string{
		"const c: R = { let x = 1; x = R(x, none(x)); y = { x }; new L(x.a, m!(-x)) };",
		"fn f<T: S, V: none>(x: T, y: L<int, L<T>>, z: Z<R>) -> L<none<R>> { while x { let x = y; x; } let z = { let y = z; y + z }; if x { print y; } else { x = z; }; f(x) }",
		"type A<T> { a: T, b: int }", "trait A: S + none { fn m(s: Self, l: L<Self>) -> L<L<Self>>; }", "impl<T> S for L<T> { fn m(x: T) { x } fn n() { x } }",
		"macro m(x, y) = { let z = x; z + f(y, { y }) };",
	} {
		out = append(out, item(t, text))
	}
	d := &dice{89}
	for range 200 {
		out = append(out, d.generated(), d.dense(4))
	}
	return append(out, tree(api.KModule, "", 0, slices.Clone(out)...))
}

func TestResolveSharesNothing(t *testing.T) {
	for _, in := range trees(t) {
		given, b := roomyTree(in), roomy(binds(known), overBind)
		check := func(after string) {
			t.Helper()
			if !shape.Same(given, in) || !isBehind(given) || !slices.Equal(b, binds(known)) || b[:len(b)+1][len(b)] != overBind {
				t.Fatalf("%s: after %s the arguments are others", show(in), after)
			}
		}
		got := resolve.Resolve(given, b)
		text, diags := shape.Encode(got.Tree), slices.Clone(got.Diags)
		check("Resolve")
		other := resolve.Resolve(given, b)
		spoilTree(other.Tree)
		spoil(other.Diags, overDiag)
		check("a change of the result")
		spoilTree(given)
		spoil(b, overBind)
		if shape.Encode(got.Tree) != text || !slices.Equal(got.Diags, diags) {
			t.Fatalf("%s: the result shares memory with another one, or with the arguments", show(in))
		}
	}
}

// The lists of a tree share nothing, whatever room they have.
func TestThePartsOfATreeShareNothing(t *testing.T) {
	l := trees(t)
	for _, in := range l[:len(l)-1] {
		got := resolve.Resolve(in, binds(known)).Tree
		for i, k := range got.Kids {
			rest := shows(got.Kids[i+1:])
			spoilTree(k)
			if shows(got.Kids[i+1:]) != rest {
				t.Fatalf("%s: the parts of the tree share memory", show(in))
			}
		}
	}
}

// A tree whose lists of Kids are parts of one list is resolved like any other.
func TestListsThatShareMemory(t *testing.T) {
	l := []api.Tree{let("x"), name("x"), let("x"), name("x")}
	in := block(block(l...), block(l[:2]...), block(l[2:]...), block(l[1:2:2]...))
	check(t, in, nil, "block(block(let x@0, local x@0, let x@1, local x@1), block(let x@2, local x@2), block(let x@3, local x@3), block(bad x))", "4@0 x")
	if shows(l) != "let x, name x, let x, name x" {
		t.Errorf("the list became %s", shows(l))
	}
}

// No state is kept: a call returns the same after others, also the numbers of binders, and beside others.
func TestCallsDoNotDependOnOthers(t *testing.T) {
	l := trees(t)
	want := make([]string, len(l))
	for i, in := range l {
		want[i] = shape.Encode(resolve.Resolve(in, binds(known)).Tree)
	}
	var wait sync.WaitGroup
	for w := range 4 {
		wait.Go(func() {
			for n := range l {
				i := (n*7 + w*31) % len(l)
				resolve.Resolve(l[n], nil)
				if got := shape.Encode(resolve.Resolve(l[i], binds(known)).Tree); got != want[i] {
					t.Errorf("after other calls: %s", got)
					return
				}
			}
		})
	}
	wait.Wait()
}
