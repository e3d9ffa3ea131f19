package shape_test

import (
	"math"
	"slices"
	"strings"
	"testing"

	"recompile/api"
	"recompile/shape"
)

func leaf(kind int, text string) api.Tree { return tree(kind, text, 0) }

// kinds are all kinds of nodes, and numbers that are none.
func kinds() []int {
	out := []int{math.MinInt, -1, 41, math.MaxInt}
	for k := range 41 {
		out = append(out, k)
	}
	return out
}

// wrongTexts are texts for nodes; most nodes cannot have most of them.
func wrongTexts() []string {
	return []string{"", "a", "Z_9", "1", "0", "1a", "true", "int", "unit", "Self", "if", "use", "use a", "+", "-", "!", "<", "==", "||", "&", "=", "->", "(", ")", "a b", " a", "a ", "a//", "//a", "a\n", "a.b", "a+b", "a()", "(a)", "1 ", "\x00", "é", "#", "a#1", "m::a", "::a", "1234567890123456789"}
}

func TestSourceOfSingleNodes(t *testing.T) {
	want := map[int]func(string) string{
		api.KUse:    func(s string) string { return "use " + s + ";" },
		api.KPubUse: func(s string) string { return "pub use " + s + ";" },
		api.KName:   func(s string) string { return s },
		api.KTypeOf: func(s string) string { return s },
		api.KCall:   func(s string) string { return s + "()" },
		api.KExpand: func(s string) string { return s + "!()" },
		api.KNew:    func(s string) string { return "new " + s + "()" },
	}
	for _, kind := range kinds() {
		for _, s := range wrongTexts() {
			text := ""
			switch of := want[kind]; {
			case of != nil && (s == "a" || s == "Z_9"):
				text = of(s)
			case kind == api.KTypeOf && (s == "int" || s == "unit"), kind == api.KInt && (s == "0" || s == "1"), kind == api.KBool && s == "true":
				text = s
			}
			checkSource(t, leaf(kind, s), text)
		}
	}
}

// partsOfTrees are nodes that stand only within others.
func partsOfTrees() []api.Tree {
	a, unit := leaf(api.KName, "a"), leaf(api.KUnit, "")
	typeOf := leaf(api.KTypeOf, "int")
	return []api.Tree{
		tree(api.KSig, "f", 0, leaf(api.KArgs, ""), typeOf), leaf(api.KParams, ""), tree(api.KParams, "", 0, leaf(api.KParam, "T")), leaf(api.KParam, "T"), tree(api.KParam, "T", 0, a),
		leaf(api.KArgs, ""), tree(api.KArgs, "", 0, a), tree(api.KArgs, "", 0, tree(api.KArg, "x", 0, typeOf)), tree(api.KArg, "x", 0, typeOf), leaf(api.KSupers, ""), tree(api.KSupers, "", 0, a),
		unit, tree(api.KLet, "x", 0, a), tree(api.KAssign, "x", 0, a), tree(api.KWhile, "", 0, a, tree(api.KBlock, "", 0, unit)), tree(api.KPrint, "", 0, a), tree(api.KDo, "", 0, a),
		leaf(api.KTypeOf, "Self"), tree(api.KTypeOf, "A", 0, leaf(api.KTypeOf, "Self")), leaf(api.KLocal, "a"), leaf(api.KGlobal, "a"), leaf(api.KBad, "a"), leaf(api.KBad, ""),
		leaf(api.KModule, ""), tree(api.KModule, "", 0, leaf(api.KUse, "a")), leaf(0, ""), tree(0, "", 0, a), tree(41, "a", 0, a),
	}
}

func TestSourceOfPartsOfTrees(t *testing.T) {
	for _, x := range partsOfTrees() {
		checkSource(t, x, "")
	}
}

func TestSourceOfSomeTreesThatNoTextHas(t *testing.T) {
	a, b, unit, typeOf := leaf(api.KName, "a"), leaf(api.KName, "b"), leaf(api.KUnit, ""), leaf(api.KTypeOf, "int")
	block := tree(api.KBlock, "", 0, unit)
	params, args := leaf(api.KParams, ""), leaf(api.KArgs, "")
	for _, x := range []api.Tree{
		leaf(api.KBlock, ""), tree(api.KBlock, "", 0, a, unit), tree(api.KBlock, "", 0, a, b), tree(api.KBlock, "", 0, unit, unit), tree(api.KBlock, "", 0, unit, a), tree(api.KBlock, "", 0, tree(api.KDo, "", 0, a)),
		tree(api.KBlock, "", 0, tree(api.KLet, "x", 0, a)), tree(api.KBlock, "", 0, tree(api.KWhile, "", 0, a, block)), tree(api.KBlock, "x", 0, unit), tree(api.KBlock, "", 0, a, leaf(api.KUnary, "-")),
		tree(api.KBlock, "", 0, a, tree(api.KUnary, "-", 0, b)), tree(api.KBlock, "", 0, leaf(api.KLet, "x"), unit), tree(api.KBlock, "", 0, tree(api.KLet, "x", 0, a, b), unit),
		tree(api.KBlock, "", 0, tree(api.KWhile, "", 0, a, b), unit), tree(api.KBlock, "", 0, tree(api.KWhile, "", 0, block), unit), tree(api.KBlock, "", 0, tree(api.KDo, "", 0, unit), unit),
		tree(api.KIf, "", 0, a, block), tree(api.KIf, "", 0, a, block, b), tree(api.KIf, "", 0, a, b, block), tree(api.KIf, "", 0, a, block, block, block), tree(api.KIf, "", 0, unit, block, block), tree(api.KIf, "x", 0, a, block, block),
		tree(api.KBinary, "+", 0, a), tree(api.KBinary, "+", 0, a, b, b), tree(api.KBinary, "=", 0, a, b), tree(api.KBinary, "!", 0, a, b), tree(api.KBinary, "", 0, a, b), tree(api.KBinary, ".", 0, a, b), tree(api.KBinary, "+b+", 0, a, b), tree(api.KBinary, "+", 0, a, unit),
		tree(api.KUnary, "+", 0, a), tree(api.KUnary, "--", 0, a), tree(api.KUnary, "", 0, a), tree(api.KUnary, "(", 0, a), leaf(api.KUnary, "-"), tree(api.KUnary, "-", 0, a, b), tree(api.KUnary, "b-", 0, a), leaf(api.KBinary, "+"),
		tree(api.KDot, "a", 0), tree(api.KDot, "a", 0, a, b), tree(api.KDot, "1", 0, a), tree(api.KDot, "b.c", 0, a), tree(api.KDot, "a", 0, typeOf), tree(api.KDot, "", 0, a),
		tree(api.KName, "a", 0, b), tree(api.KInt, "1", 0, a), tree(api.KBool, "true", 0, a), tree(api.KCall, "f", 0, unit), tree(api.KCall, "f", 0, typeOf), tree(api.KCall, "f", 0, tree(api.KLet, "x", 0, a)), tree(api.KNew, "T", 0, leaf(api.KLocal, "a")),
		tree(api.KTypeOf, "int", 0, typeOf), tree(api.KTypeOf, "unit", 0, typeOf), tree(api.KTypeOf, "A", 0, a), tree(api.KTypeOf, "A", 0, leaf(api.KTypeOf, "")), tree(api.KTypeOf, "A<int>", 0),
		tree(api.KUse, "a", 0, a), tree(api.KUse, "a;use b", 0), tree(api.KConst, "a", 0, typeOf), tree(api.KConst, "a", 0, a, a), tree(api.KConst, "a", 0, typeOf, typeOf), tree(api.KConst, "a", 0, typeOf, a, a), tree(api.KConst, "a", 0, leaf(api.KTypeOf, "Self"), a),
		leaf(api.KFn, "f"), tree(api.KFn, "f", 0, params, args, typeOf), tree(api.KFn, "f", 0, params, args, tree(api.KTypeOf, "unit", 0, typeOf), block), tree(api.KFn, "f", 0, params, args, leaf(api.KName, "unit"), block), tree(api.KFn, "f", 0, params, args, leaf(api.KTypeOf, "Self"), block),
		tree(api.KFn, "f", 0, args, params, typeOf, block), tree(api.KFn, "f", 0, params, args, typeOf, a), tree(api.KFn, "f", 0, params, args, typeOf, block, block), tree(api.KFn, "f", 0, params, tree(api.KArgs, "", 0, a), typeOf, block),
		tree(api.KFn, "f", 0, tree(api.KParams, "x", 0), args, typeOf, block), tree(api.KFn, "f", 0, params, tree(api.KArgs, "x", 0), typeOf, block), tree(api.KFn, "f", 0, tree(api.KParams, "", 0, tree(api.KParam, "T", 0, a, b)), args, typeOf, block),
		tree(api.KType, "T", 0, params), tree(api.KType, "T", 0, params, args, args), tree(api.KType, "T", 0, params, tree(api.KArgs, "", 0, tree(api.KArg, "x", 0, typeOf, typeOf))), tree(api.KType, "T", 0, params, tree(api.KArgs, "", 0, leaf(api.KArg, "x"))),
		leaf(api.KTrait, "T"), tree(api.KTrait, "T", 0, params), tree(api.KTrait, "T", 0, leaf(api.KSupers, ""), a), tree(api.KTrait, "T", 0, tree(api.KSupers, "", 0, typeOf)), tree(api.KTrait, "T", 0, leaf(api.KSupers, "A")),
		tree(api.KTrait, "T", 0, leaf(api.KSupers, ""), tree(api.KFn, "f", 0, params, args, typeOf, block)), tree(api.KTrait, "T", 0, leaf(api.KSupers, ""), tree(api.KSig, "f", 0, args)),
		tree(api.KImpl, "T", 0, params), tree(api.KImpl, "T", 0, params, leaf(api.KTypeOf, "Self")), tree(api.KImpl, "T", 0, params, typeOf, a), tree(api.KImpl, "T", 0, params, typeOf, tree(api.KSig, "f", 0, args, typeOf)),
		tree(api.KImpl, "T", 0, params, typeOf, tree(api.KFn, "f", 0, tree(api.KParams, "", 0, leaf(api.KParam, "T")), args, typeOf, block)),
		tree(api.KMacro, "m", 0, args), tree(api.KMacro, "m", 0, params, a), tree(api.KMacro, "m", 0, tree(api.KArgs, "", 0, tree(api.KArg, "x", 0, typeOf)), a), tree(api.KMacro, "m", 0, tree(api.KArgs, "", 0, tree(api.KName, "x", 0, a)), a),
	} {
		checkSource(t, x, "")
	}
}

// others are nodes that are put into trees.
func others() []api.Tree {
	l := append(partsOfTrees(), must("a"), must("1"), must("{}"), must("a+b"), must("-a"), mustType("int"), mustType("unit"), mustType("A<int>"))
	for _, s := range items() {
		l = append(l, must(s))
	}
	return l
}

// changes returns functions that change a node.
func changes() []func(*api.Tree) {
	var out []func(*api.Tree)
	for _, kind := range kinds() {
		out = append(out, func(n *api.Tree) { n.Kind = kind })
	}
	for _, text := range wrongTexts() {
		out = append(out, func(n *api.Tree) { n.Text = text })
	}
	for _, x := range others() {
		out = append(out,
			func(n *api.Tree) { *n = clone(x) },
			func(n *api.Tree) { n.Kids = append(n.Kids, clone(x)) },
			func(n *api.Tree) { n.Kids = append([]api.Tree{clone(x)}, n.Kids...) })
	}
	for k := range 4 {
		out = append(out,
			func(n *api.Tree) { n.Kids = slices.Delete(n.Kids, min(k, len(n.Kids)), min(k+1, len(n.Kids))) },
			func(n *api.Tree) { n.Kids = n.Kids[:min(k, len(n.Kids))] },
			func(n *api.Tree) {
				if k+1 < len(n.Kids) {
					n.Kids[k], n.Kids[k+1] = n.Kids[k+1], n.Kids[k]
				}
			},
			func(n *api.Tree) {
				if k < len(n.Kids) {
					n.Kids = slices.Insert(n.Kids, k, clone(n.Kids[k]))
				}
			})
	}
	return out
}

// checkLegal tests that a tree has a Source if and only if it is legal, and returns whether it is.
func checkLegal(t *testing.T, g *grammar, x api.Tree) bool {
	t.Helper()
	legal := g.legal(x)
	got := shape.Source(x)
	if legal != (got != "") || legal && !readsAs(got, x) {
		t.Errorf("Source(%s) = %.200q", shown(x), got)
	}
	return legal
}

func TestSourceOfChangedTrees(t *testing.T) {
	t.Parallel()
	g := &grammar{wrapped: map[string]bool{}}
	l := slices.Concat(items(), exprs(), typesOf())
	for _, p := range slices.Concat(exprItems(), exprPlaces(), typePlaces(), sigPlaces()) {
		l = append(l, strings.ReplaceAll(p.text, "@", "a"))
	}
	list := changes()
	yes, no := 0, 0
	for _, text := range l {
		x := must(text)
		if slices.Contains(typesOf(), text) {
			x = mustType(text)
		}
		for k := range all(&x) {
			for _, change := range list {
				c := clone(x)
				change(all(&c)[k])
				if checkLegal(t, g, c) {
					yes++
				} else {
					no++
				}
			}
		}
	}
	if yes < 10000 || no < 10000 {
		t.Errorf("%d trees are legal, %d are not", yes, no)
	}
}

// TestSourceOfTreesChangedTwice tests trees with two changes, some of which mend what the other one has spoilt.
func TestSourceOfTreesChangedTwice(t *testing.T) {
	t.Parallel()
	g := &grammar{wrapped: map[string]bool{}}
	d := &dice{8}
	list := changes()
	l := slices.Concat(items(), exprs())
	for range 100000 {
		x := must(one(d, l...))
		for range 2 {
			change := one(d, list...)
			nodes := all(&x)
			change(nodes[d.roll(len(nodes))])
		}
		checkLegal(t, g, x)
	}
}

// TestSourceOfAnyTree tests trees that are hardly ever legal.
func TestSourceOfAnyTree(t *testing.T) {
	g := &grammar{wrapped: map[string]bool{}}
	d := &dice{9}
	for n := range 20000 {
		x := anyTree(d, 1+n%20)
		for _, node := range all(&x) {
			node.Kind = one(d, kinds()...)
			node.Text = one(d, wrongTexts()...)
		}
		checkLegal(t, g, x)
	}
}
