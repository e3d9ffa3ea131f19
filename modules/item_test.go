package modules_test

import (
	"slices"
	"strings"
	"testing"

	"recompile/api"
	"recompile/modules"
	"recompile/shape"
)

// checkItem tests that the definition of a name is the tree want, and that the items stay as they are.
func checkItem(t *testing.T, items []api.Tree, name string, want api.Tree) {
	t.Helper()
	before := texts(items)
	if got, ok := modules.Item(items, name); !ok || !shape.Same(got, want) {
		t.Errorf("Item of %q: %s, %v, expected %s", name, shape.Encode(got), ok, shape.Encode(want))
	}
	if !slices.Equal(texts(items), before) {
		t.Errorf("Item of %q changes the items", name)
	}
}

// checkNone tests that a name has no definition.
func checkNone(t *testing.T, items []api.Tree, name string) {
	t.Helper()
	if got, ok := modules.Item(items, name); ok || !shape.Same(got, api.Tree{}) {
		t.Errorf("Item of %q: %s, %v", name, shape.Encode(got), ok)
	}
}

func TestItemIsTheItem(t *testing.T) {
	for text, want := range map[string]api.Tree{
		"const a: int = 1;": tree(api.KConst, "a", 0, tree(api.KTypeOf, "int", 9), tree(api.KInt, "1", 15)),
		"macro a(b) = b;":   tree(api.KMacro, "a", 0, tree(api.KArgs, "", 8, tree(api.KName, "b", 8)), tree(api.KName, "b", 13)),
		"type a<b> { c: d }": tree(api.KType, "a", 0,
			tree(api.KParams, "", 6, tree(api.KParam, "b", 7)),
			tree(api.KArgs, "", 12, tree(api.KArg, "c", 12, tree(api.KTypeOf, "d", 15)))),
		"fn a() { 1 }": tree(api.KFn, "a", 0,
			tree(api.KParams, "", 4), tree(api.KArgs, "", 5), tree(api.KTypeOf, "unit", 7),
			tree(api.KBlock, "", 7, tree(api.KInt, "1", 9))),
	} {
		items := parsed(t, text)
		checkItem(t, items, "a", want)
		checkItem(t, items, "a", items[0])
	}
}

func TestItemOfEachKind(t *testing.T) {
	text := "use u; fn f<T: S>(a: T) -> T { let b = a; b.c } trait S: R + Q { fn s(x: Self) -> int; } const c: int = 1 + 2;" +
		" impl<T> S for L<T> { fn s(x: L<T>) -> int { 0 } } pub use v; type L<T> { head: T } macro m(p, q) = p + q; impl S for int { }"
	items := parsed(t, text)
	for name, i := range map[string]int{"f": 1, "S": 2, "c": 3, "impl S for L[T]": 4, "L": 6, "m": 7, "impl S for int": 8} {
		checkItem(t, items, name, items[i])
	}
	for _, name := range modules.Names(items) {
		if _, ok := modules.Item(items, name); !ok {
			t.Errorf("the name %q has no definition", name)
		}
	}
}

func TestItemOfNamesOfATrait(t *testing.T) {
	items := parsed(t, "trait A { fn f(s: Self) -> int; fn g(); }")
	checkItem(t, items, "A", items[0])
	checkItem(t, items, "f", tree(api.KSig, "f", 10,
		tree(api.KArgs, "", 15, tree(api.KArg, "s", 15, tree(api.KTypeOf, "Self", 18))),
		tree(api.KTypeOf, "int", 27),
		tree(api.KName, "A", 10)))
	checkItem(t, items, "g", tree(api.KSig, "g", 32, tree(api.KArgs, "", 37), tree(api.KTypeOf, "unit", 38), tree(api.KName, "A", 32)))

	items = parsed(t, "fn z() { } trait B: A { fn b(); } trait C { fn c(); }")
	checkItem(t, items, "b", tree(api.KSig, "b", 24, tree(api.KArgs, "", 29), tree(api.KTypeOf, "unit", 30), tree(api.KName, "B", 24)))
	checkItem(t, items, "c", tree(api.KSig, "c", 44, tree(api.KArgs, "", 49), tree(api.KTypeOf, "unit", 50), tree(api.KName, "C", 44)))
}

func TestItemOfFunctionsOfAnImplementation(t *testing.T) {
	items := parsed(t, "impl<T: A> A for L<T> { fn f(s: T) -> int { 1 } fn g() { } }")
	checkItem(t, items, "impl A for L[T]", items[0])
	params := tree(api.KParams, "", 4, tree(api.KParam, "T", 5, tree(api.KName, "A", 8)))
	checkItem(t, items, "impl A for L[T].f", tree(api.KFn, "f", 24, params,
		tree(api.KArgs, "", 29, tree(api.KArg, "s", 29, tree(api.KTypeOf, "T", 32))),
		tree(api.KTypeOf, "int", 38),
		tree(api.KBlock, "", 42, tree(api.KInt, "1", 44))))
	checkItem(t, items, "impl A for L[T].g", tree(api.KFn, "g", 48, params,
		tree(api.KArgs, "", 53), tree(api.KTypeOf, "unit", 55), tree(api.KBlock, "", 55, tree(api.KUnit, "", 57))))

	items = parsed(t, "impl A for int { fn f() { } }")
	checkItem(t, items, "impl A for int.f", tree(api.KFn, "f", 17, tree(api.KParams, "", 5),
		tree(api.KArgs, "", 22), tree(api.KTypeOf, "unit", 24), tree(api.KBlock, "", 24, tree(api.KUnit, "", 26))))

	items = parsed(t, "impl<T> A for T { fn f() { } } impl<U, V: B> A for P<U, V> { fn f() { } }")
	for i, name := range []string{"impl A for T", "impl A for P[U;V]"} {
		want := clone(items[i].Kids[2])
		want.Kids[0] = items[i].Kids[0]
		checkItem(t, items, name+".f", want)
	}
}

func TestItemOfANameThatComesTwice(t *testing.T) {
	for _, c := range []struct {
		text, name string
		kind, at   int
	}{
		{"fn a() { } fn a() { 1 }", "a", api.KFn, 0},
		{"use a; const a: int = 1; fn a() { } type a { }", "a", api.KConst, 7},
		{"pub use a; type a { } const a: int = 1;", "a", api.KType, 11},
		{"macro a() = 1; trait a { fn a(); }", "a", api.KMacro, 0},
		{"trait a { fn a(); } macro a() = 1;", "a", api.KTrait, 0},
		{"trait b { fn a(); } fn a() { }", "a", api.KSig, 10},
		{"fn a() { } trait b { fn a(); }", "a", api.KFn, 0},
		{"trait b { fn c(); fn a(); fn a() -> int; }", "a", api.KSig, 18},
		{"trait b { fn a(); } trait c { fn a(); }", "a", api.KSig, 10},
		{"trait b { fn c(); } trait c { fn b(); }", "c", api.KSig, 10},
		{"trait b { fn c(); } trait c { fn b(); }", "b", api.KTrait, 0},
		{"trait b { } trait b { fn a(); }", "a", api.KSig, 22},
		{"impl a for b { } impl a for b { fn f() { } }", "impl a for b", api.KImpl, 0},
		{"impl a for b { fn f() { } fn f() { 1 } }", "impl a for b.f", api.KFn, 15},
		{"impl a for b { fn g() { } } impl a for b { fn g() { } fn f() { } }", "impl a for b.f", api.KFn, 54},
		{"impl a for b { fn g() { } } impl a for b { fn g() { } fn f() { } }", "impl a for b.g", api.KFn, 15},
		{"impl a for c { fn f() { } } impl a for b { fn f() { } } fn f() { }", "impl a for b.f", api.KFn, 43},
		{"impl a for c { fn f() { } } impl a for b { fn f() { } } fn f() { }", "f", api.KFn, 56},
	} {
		if got, ok := modules.Item(parsed(t, c.text), c.name); !ok || got.Kind != c.kind || got.At != c.at {
			t.Errorf("%s, %q: the kind %d at %d, %v", c.text, c.name, got.Kind, got.At, ok)
		}
	}
}

// What a definition gets of its item is that of the item it lies in, not of another one with the same name.
func TestItemOfPartsOfASecondItem(t *testing.T) {
	items := parsed(t, "impl<T> A for L<T> { fn f() { } } impl<T: B> A for L<T> { fn f() { } fn g() { } }")
	for name, at := range map[string][2]int{"f": {0, 2}, "g": {1, 3}} {
		want := clone(items[at[0]].Kids[at[1]])
		want.Kids[0] = items[at[0]].Kids[0]
		checkItem(t, items, "impl A for L[T]."+name, want)
	}
	items = parsed(t, "trait A { fn f(); } trait A { fn f(); fn g(); } trait B { fn g(); fn h(); }")
	for name, at := range map[string][2]int{"f": {0, 1}, "g": {1, 2}, "h": {2, 2}} {
		want := clone(items[at[0]].Kids[at[1]])
		want.Kids = append(want.Kids, tree(api.KName, items[at[0]].Text, want.At))
		checkItem(t, items, name, want)
	}
}

func TestItemOfNamesThatAreNotThere(t *testing.T) {
	items := parsed(t, "use u; pub use v; const c: ct = ce; fn f<P: Q>(a: at) -> ft { let l = 1; x } type t<R> { field: tt } trait T: S { fn m(arg: Self) -> rt; }"+
		" macro n(p) = q; impl<X: Y> T for t<X> { fn m(arg: t<X>) -> rt { 1 } }")
	for _, name := range strings.Fields("u v ct ce P Q a at ft l x R field tt S arg Self rt p q X Y F C cf : impl implT T.m m. .m t.m T::m m::T ::f f:: unit int") {
		checkNone(t, items, name)
	}
	for _, name := range []string{
		"", " ", " f", "f ", "f\x00", "impl ", "impl T", "impl T for", "impl T for ", "impl T for t", "impl T for t[", "impl T for t[X", "impl T for t<X>", "impl T for t[X] ",
		"impl  T for t[X]", "Impl T for t[X]", "impl t for T[X]", "impl T for t[X].", "impl T for t[X]m", "impl T for t[X].f", "impl T for t[X].T", "impl T for t[X]::m",
		"impl T for t[X].m.m", "impl T for t[Y]", "impl Y for t[X]", "impl<X: Y> T for t<X>", "T for t[X]", "impl m for t[X]",
	} {
		checkNone(t, items, name)
	}
	for _, name := range []string{"", "f", "impl  for "} {
		checkNone(t, nil, name)
		checkNone(t, items[:2], name)
	}
}

// Nothing is said of these trees, but that the functions return.
func TestTreesThatTheParserDoesNotReturn(t *testing.T) {
	var below []api.Tree
	for kind := -1; kind <= api.KModule+1; kind++ {
		below = append(below, tree(kind, "a", 0), tree(kind, "", -1, tree(kind, "b", 2)))
	}
	for kind := -1; kind <= api.KModule+1; kind++ {
		for _, kids := range [][]api.Tree{nil, below, slices.Concat(below, below)} {
			items := []api.Tree{tree(kind, "a", 1, kids...), tree(kind, "a", 1, kids...)}
			modules.Again(items)
			modules.Uses(items)
			for _, name := range modules.Names(items) {
				modules.Item(items, name)
			}
			checkNone(t, items, "not there")
		}
	}
}

func TestItemOfLongItems(t *testing.T) {
	sum := "a" + strings.Repeat("+a", 9000)
	items := parsed(t, "impl A for int { fn f() -> int { "+sum+" } } const c: int = 1;")
	want := clone(items[0].Kids[2])
	want.Kids[0] = items[0].Kids[0]
	checkItem(t, items, "impl A for int.f", want)
	checkItem(t, items, "impl A for int", items[0])

	deep := strings.Repeat("(", api.MaxDepth-1) + "1" + strings.Repeat(")", api.MaxDepth-1)
	items = parsed(t, "const c: int = "+deep+";")
	checkItem(t, items, "c", items[0])
	items = parsed(t, "trait A { fn f(a: int"+strings.Repeat(", a: int", 2000)+"); }")
	want = clone(items[0].Kids[1])
	want.Kids = append(want.Kids, tree(api.KName, "A", 10))
	checkItem(t, items, "f", want)
}
