package modules_test

import (
	"slices"
	"testing"

	"recompile/api"
	"recompile/modules"
)

// orders are all orders of three.
func orders() [][]int {
	return [][]int{{0, 1, 2}, {0, 2, 1}, {1, 0, 2}, {1, 2, 0}, {2, 0, 1}, {2, 1, 0}}
}

// checkOrder tests that faces in another order have the same lists.
func checkOrder(t *testing.T, l []api.Face, order []int) {
	t.Helper()
	var other []api.Face
	for _, i := range order {
		other = append(other, l[i])
	}
	lists, others := modules.All(l), modules.All(other)
	for k, i := range order {
		if !slices.Equal(others[k], lists[i]) {
			t.Fatalf("All of %q: %q, and in the order %v: %q", l, lists, order, others)
		}
	}
}

func TestAllDoesNotDependOnTheOrder(t *testing.T) {
	n := 0
	threeFaces(func(l []api.Face) {
		n++
		checkOrder(t, l, orders()[n%6])
		if n%7 == 0 {
			for _, order := range orders() {
				checkOrder(t, l, order)
			}
		}
	})
	d := &dice{67}
	for range 1000 {
		l := d.distinct(8)
		var order []int
		for i := range l {
			order = slices.Insert(order, d.roll(i+1), i)
		}
		checkOrder(t, l, order)
	}
}

// distinct returns faces of different modules.
func (d *dice) distinct(n int) []api.Face {
	var out []api.Face
	for _, f := range d.faces(2 * n) {
		if faceOf(out, f.Module) < 0 {
			out = append(out, f)
		}
	}
	return out
}

// namesOf returns the names of binds, ascending, each once.
func namesOf(l []api.Bind) []string {
	var out []string
	for _, b := range l {
		out = append(out, b.Name)
	}
	return sorted(out)
}

// without returns the binds whose names two faces have not of their own.
func without(l []api.Bind, a, b api.Face) []api.Bind {
	var out []api.Bind
	for _, x := range l {
		if !has(a, x.Name) && !has(b, x.Name) {
			out = append(out, x)
		}
	}
	return out
}

// checkMutual tests that modules which re-export each other give the same names, and that these mean the same but for their own.
func checkMutual(t *testing.T, l []api.Face) int {
	t.Helper()
	all, n := modules.All(l), 0
	for i, a := range l {
		for j, b := range l[:i] {
			if faceOf(l, a.Module) != i || faceOf(l, b.Module) != j || !slices.Contains(a.Pub, b.Module) || !slices.Contains(b.Pub, a.Module) {
				continue
			}
			n++
			if !slices.Equal(namesOf(all[i]), namesOf(all[j])) || !slices.Equal(without(all[i], a, b), without(all[j], a, b)) {
				t.Fatalf("All of %q: the modules %d and %d give %q and %q", l, i, j, all[i], all[j])
			}
		}
	}
	return n
}

func TestModulesThatReexportEachOtherGiveTheSameNames(t *testing.T) {
	got := modules.All([]api.Face{{Module: "a", Own: []string{"x"}, Pub: []string{"b"}}, {Module: "b", Own: []string{"y"}, Pub: []string{"a"}}})
	if both := binds("x=a::x,y=b::y"); !equal(got, [][]api.Bind{both, both}) {
		t.Errorf("the example: %q", got)
	}
	n := 0
	threeFaces(func(l []api.Face) { n += checkMutual(t, l) })
	d := &dice{68}
	for range 2000 {
		n += checkMutual(t, d.faces(12))
	}
	if n < 10000 {
		t.Errorf("only %d modules re-export each other", n)
	}
}

// more returns faces where the one with the index i has further names and re-exports.
func more(l []api.Face, i int, own, pub []string) []api.Face {
	out := slices.Clone(l)
	out[i].Own = slices.Concat(own, out[i].Own)
	out[i].Pub = slices.Concat(out[i].Pub, pub)
	return out
}

// checkKept tests that nobody loses a bind; with a new name of a module, only binds with this name that the new one hides.
func checkKept(t *testing.T, l []api.Face, i int, own, pub []string) {
	t.Helper()
	before, after := modules.All(l), modules.All(more(l, i, own, pub))
	for k := range l {
		for _, b := range before[k] {
			hidden := slices.Contains(own, b.Name) && slices.Contains(after[k], api.Bind{Name: b.Name, Def: l[i].Module + "::" + b.Name})
			if !slices.Contains(after[k], b) && !hidden {
				t.Fatalf("All of %q, and with %q and %q more at %d: the module %d loses %q", l, own, pub, i, k, b)
			}
		}
	}
	names := stepOf(l[i].Module, own, nil)
	for _, b := range names {
		if !slices.Contains(after[i], b) {
			t.Fatalf("All of %q, and with %q more at %d: there is no %q", l, own, i, b)
		}
	}
}

func TestWithMoreNamesOrReexportsNobodyLosesWhatWasGiven(t *testing.T) {
	threeFaces(func(l []api.Face) {
		for _, name := range []string{"x", "y", "z"} {
			checkKept(t, l, 0, []string{name}, nil)
		}
		for _, module := range []string{"a", "b", "c", "d"} {
			checkKept(t, l, 1, nil, []string{module})
		}
	})
	d := &dice{69}
	for range 3000 {
		if l := d.faces(12); len(l) > 0 {
			i := d.roll(len(l))
			checkKept(t, l, i, d.few(3), nil)
			checkKept(t, l, i, nil, d.few(3))
			checkKept(t, l, i, d.few(3), d.few(3))
		}
	}
}

func TestANameOfItsOwnHidesWhatWasGiven(t *testing.T) {
	l := faces("a:>b;b:>c;c:x,y;d:>b,c")
	if got := modules.All(l); !equal(got, lists("x=c::x,y=c::y;x=c::x,y=c::y;x=c::x,y=c::y;x=c::x,y=c::y")) {
		t.Errorf("before: %q", got)
	}
	if got := modules.All(more(l, 1, []string{"x"}, nil)); !equal(got, lists("x=b::x,y=c::y;x=b::x,y=c::y;x=c::x,y=c::y;x=b::x,x=c::x,y=c::y")) {
		t.Errorf("with a name more: %q", got)
	}
	if got := modules.All(more(l, 1, []string{"impl x for y"}, nil)); !equal(got, modules.All(l)) {
		t.Errorf("with a name that is not visible: %q", got)
	}
}
