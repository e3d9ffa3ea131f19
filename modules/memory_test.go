package modules_test

import (
	"slices"
	"testing"

	"recompile/api"
	"recompile/modules"
)

// roomy returns a list with an element behind it, which an append to the list would write over.
func roomy[T any](l []T, behind T) []T {
	return append(append(make([]T, 0, len(l)+4), l...), behind)[:len(l)]
}

// isBehind reports whether the element behind a list is still there.
func isBehind[T comparable](l []T, behind T) bool { return l[:len(l)+1][len(l)] == behind }

// spoil writes over a list and all that it has room for.
func spoil[T any](l []T, over T) {
	l = l[:cap(l)]
	for i := range l {
		l[i] = over
	}
}

// roomyTree returns a tree whose kids have room behind them, with a node there.
func roomyTree(t api.Tree) api.Tree {
	var kids []api.Tree
	for _, k := range t.Kids {
		kids = append(kids, roomyTree(k))
	}
	t.Kids = roomy(kids, tree(api.KBad, "behind", 9))
	return t
}

// allBehind reports whether there is still the node behind the kids of all nodes.
func allBehind(t api.Tree) bool {
	behind := t.Kids[:len(t.Kids)+1][len(t.Kids)]
	return behind.Text == "behind" && behind.Kind == api.KBad && behind.At == 9 && !slices.ContainsFunc(t.Kids, func(k api.Tree) bool { return !allBehind(k) })
}

// spoilTree changes all that a tree has, and what its kids have room for.
func spoilTree(t api.Tree) {
	for _, k := range t.Kids {
		spoilTree(k)
	}
	spoil(t.Kids, tree(api.KBad, "spoilt", -7))
}

const everything = "use u; pub use v; use w; const c: L<int> = 1 + f(2); fn f<T: S>(a: T) -> L<T> { let b = a; b } type L<T> { head: T, tail: int }" +
	" trait S: R + Q { fn s(x: Self) -> L<Self>; fn c(); } macro m(p, q) = p + q; impl<T: S> S for L<T> { fn s(x: L<T>) -> int { 1 + 2 } fn s() { } } fn f() { }"

// roomyItems returns items whose lists have room behind them.
func roomyItems(t *testing.T) []api.Tree {
	var items []api.Tree
	for _, item := range parsed(t, everything) {
		items = append(items, roomyTree(item))
	}
	return roomy(items, roomyTree(tree(api.KFn, "behind", 9)))
}

// untouched tests that items are as they were.
func untouched(t *testing.T, items []api.Tree, after string) {
	t.Helper()
	if !slices.Equal(texts(items), texts(parsed(t, everything))) {
		t.Errorf("after %s the items are others", after)
	}
	all := items[:len(items)+1]
	if last := all[len(items)]; last.Kind != api.KFn || last.Text != "behind" || last.At != 9 || len(last.Kids) != 0 {
		t.Errorf("after %s what is behind the items is another node", after)
	}
	for _, item := range all {
		if !allBehind(item) {
			t.Errorf("after %s what is behind a node is another one", after)
		}
	}
}

func TestItemSharesNothing(t *testing.T) {
	items := roomyItems(t)
	for _, name := range modules.Names(items) {
		first, _ := modules.Item(items, name)
		want := texts([]api.Tree{first})
		second, _ := modules.Item(items, name)
		untouched(t, items, "Item of "+name)
		spoilTree(second)
		untouched(t, items, "a change of the definition of "+name)
		if !slices.Equal(texts([]api.Tree{first}), want) {
			t.Errorf("two definitions of %s share memory", name)
		}
		changed := roomyItems(t)
		third, _ := modules.Item(changed, name)
		for _, item := range changed {
			spoilTree(item)
		}
		spoil(changed, tree(api.KBad, "spoilt", -7))
		if !slices.Equal(texts([]api.Tree{third}), want) {
			t.Errorf("the definition of %s changes with the items", name)
		}
	}
	modules.Item(items, "not there")
	untouched(t, items, "Item of a name that is not there")
}

// The KParams of an implementation are in many definitions, the nodes of a KSig in two: each has its own.
func TestDefinitionsShareNothing(t *testing.T) {
	items := parsed(t, "impl<T: S> S for L<T> { fn f() { } fn g() { } } trait S { fn s(x: Self); fn r(); }")
	names := modules.Names(items)
	var all []api.Tree
	for _, name := range names {
		definition, _ := modules.Item(items, name)
		all = append(all, definition)
	}
	want := texts(all)
	for i, definition := range all {
		spoilTree(definition)
		for k := i + 1; k < len(all); k++ {
			if texts(all[k : k+1])[0] != want[k] {
				t.Errorf("the definitions of %s and %s share memory", names[i], names[k])
			}
		}
	}
}

func TestNamesAgainAndUsesShareNothing(t *testing.T) {
	items := roomyItems(t)
	names, again := modules.Names(items), modules.Again(items)
	used, reexport := modules.Uses(items)
	untouched(t, items, "Names, Again and Uses")
	lists := [][]string{slices.Clone(names), slices.Clone(used), slices.Clone(reexport)}
	places := slices.Clone(again)

	spoil(modules.Names(items), "spoilt")
	spoil(modules.Again(items), -7)
	a, b := modules.Uses(items)
	spoil(a, "spoilt")
	if !slices.Equal(b, reexport) {
		t.Error("the two lists of Uses share memory")
	}
	spoil(b, "spoilt")
	untouched(t, items, "a change of results")
	for _, item := range items {
		spoilTree(item)
	}
	clear(items)
	if !slices.Equal(names, lists[0]) || !slices.Equal(used, lists[1]) || !slices.Equal(reexport, lists[2]) || !slices.Equal(again, places) {
		t.Errorf("results change with the items: %q, %v, %q, %q", names, again, used, reexport)
	}
	if len(names) != 8 || len(again) != 3 || len(used) != 2 || len(reexport) != 1 {
		t.Errorf("the names are %q, the others %v, %q, %q", names, again, used, reexport)
	}
}

var over = api.Bind{Name: "over", Def: "written"}

func TestStepSharesNothing(t *testing.T) {
	for _, c := range []struct{ names, others string }{
		{"", ""}, {"", "x=a::x"}, {"x", ""}, {"y,x", "z=b::z,x=a::x"}, {"", "x=a::x;y=b::y"}, {"z,y,z", "w=a::w,y=b::y;w=c::w,b=d"}, {"impl a for b", "a=b;;c=d"},
	} {
		names := roomy(words(c.names), "behind")
		var others [][]api.Bind
		for _, l := range lists(c.others) {
			others = append(others, roomy(l, over))
		}
		others = roomy(others, []api.Bind{over})
		check := func(after string) {
			t.Helper()
			good := slices.Equal(names, words(c.names)) && isBehind(names, "behind") && equal(others, lists(c.others)) && len(others[:len(others)+1][len(others)]) == 1
			for _, l := range others {
				good = good && isBehind(l, over)
			}
			if !good {
				t.Errorf("%q with %q: after %s they are %q and %q", c.names, c.others, after, names, others)
			}
		}
		got := modules.Step("m", names, others)
		want := slices.Clone(got)
		check("Step")
		spoil(modules.Step("m", names, others), over)
		check("a change of the result")
		spoil(names, "spoilt")
		for _, l := range others {
			spoil(l, over)
		}
		if !slices.Equal(got, want) {
			t.Errorf("%q with %q: the result shares memory with another result or with the arguments", c.names, c.others)
		}
	}
}

func TestAllSharesNothing(t *testing.T) {
	for _, text := range []string{"a:", "a:x", "a:x;b:>a", "a:x,y>b;b:z>a", "b:>a,c;a:y,x;c:w>b,a;c:>a", "c:z,y,z>b,a,b;a:x,impl q>c,b;b:"} {
		var l []api.Face
		for _, f := range faces(text) {
			l = append(l, api.Face{Module: f.Module, Own: roomy(f.Own, "behind"), Pub: roomy(f.Pub, "behind")})
		}
		l = roomy(l, api.Face{Module: "behind"})
		check := func(after string) {
			t.Helper()
			good := l[:len(l)+1][len(l)].Module == "behind"
			for i, f := range faces(text) {
				good = good && l[i].Module == f.Module && slices.Equal(l[i].Own, f.Own) && slices.Equal(l[i].Pub, f.Pub) && isBehind(l[i].Own, "behind") && isBehind(l[i].Pub, "behind")
			}
			if !good {
				t.Errorf("%s: after %s they are %q", text, after, l)
			}
		}
		got := modules.All(l)
		want := cloneBinds(got)
		check("All")
		other := modules.All(l)
		for i, list := range other {
			spoil(list, over)
			if !equal(other[i+1:], want[i+1:]) {
				t.Errorf("%s: two lists of a result share memory", text)
			}
		}
		spoil(other, []api.Bind{over})
		check("a change of a result")
		for _, f := range l {
			spoil(f.Own, "spoilt")
			spoil(f.Pub, "spoilt")
		}
		clear(l)
		if !equal(got, want) {
			t.Errorf("%s: the result shares memory with another result or with the faces", text)
		}
	}
}

func TestLookupChangesNothing(t *testing.T) {
	for _, text := range []string{"", "x=a", "x=b,x=a", "y=b,x=c,x=c,y=a"} {
		l := roomy(binds(text), over)
		modules.Lookup(l, "x")
		modules.Lookup(l, "z")
		if !slices.Equal(l, binds(text)) || !isBehind(l, over) {
			t.Errorf("%s became %q", text, l)
		}
	}
}

// No state is kept: a call returns the same after others.
func TestCallsDoNotDependOnOthers(t *testing.T) {
	items := parsed(t, everything)
	l := faces("b:y,x>a,c;a:x,z>b;c:w>a")
	names, again, all := modules.Names(items), modules.Again(items), modules.All(l)
	for range 20 {
		modules.Names(parsed(t, "fn g() { } type c { }"))
		modules.Again(parsed(t, "fn u() { } fn u() { }"))
		modules.All(faces("a:q>c;b:>a;c:p>b"))
		if !slices.Equal(modules.Names(items), names) || !slices.Equal(modules.Again(items), again) || !equal(modules.All(l), all) {
			t.Fatal("a call returns something else after others")
		}
	}
}
