package reach_test

import (
	"slices"
	"testing"

	"recompile/api"
	"recompile/reach"
)

// checkOrder tests that faces in another order have the same lists.
func checkOrder(t *testing.T, l []api.Face, order []int) {
	t.Helper()
	var other []api.Face
	for _, i := range order {
		other = append(other, l[i])
	}
	lists, others := reach.All(l), reach.All(other)
	for k, i := range order {
		if !slices.Equal(others[k], lists[i]) {
			t.Fatalf("All of %s: %q, and in the order %v: %q", show(l), lists, order, others)
		}
	}
}

// keeping returns an order in which faces with one Module come one after the other as they do in l.
func keeping(l []api.Face, order []int) []int {
	out := slices.Clone(order)
	for i := range out {
		for k := range i {
			if l[out[k]].Module == l[out[i]].Module && out[k] > out[i] {
				out[k], out[i] = out[i], out[k]
			}
		}
	}
	return out
}

func TestAllDoesNotDependOnTheOrder(t *testing.T) {
	everyFaces([]string{"a", "b", "c"}, []string{"c", "a", "b"}, func(l []api.Face) {
		orders(3, func(order []int) { checkOrder(t, l, order) })
	})
	d := &dice{167}
	everyFaces([]string{"a", "b", "c", "d"}, []string{"b", "d", "a", "c"}, func(l []api.Face) {
		checkOrder(t, l, d.order(4))
	})
	for range 3000 {
		l := d.distinct(1+d.roll(len(few)), 1+d.roll(4))
		checkOrder(t, l, d.order(len(l)))
		l = d.faces(14, 1+d.roll(len(few)), 4)
		checkOrder(t, l, keeping(l, d.order(len(l))))
	}
}

// The order of the calls of a face does not matter, nor how often each is there.
func TestAllDoesNotDependOnTheOrderOfCalls(t *testing.T) {
	d := &dice{168}
	for range 5000 {
		l := d.faces(10, 1+d.roll(len(few)), 5)
		want := reach.All(l)
		for i, f := range l {
			l[i].Own = shuffled(d, f.Own)
			if len(f.Own) > 0 {
				l[i].Own = append(l[i].Own, d.some(f.Own, 6)...)
			}
		}
		checkAll(t, l, want)
	}
}

// leads returns from which face to which one a way of calls leads: with each face in turn, ways that come together there become one.
func leads(l []api.Face) [][]bool {
	out := make([][]bool, len(l))
	for i, f := range l {
		out[i] = make([]bool, len(l))
		for _, sym := range f.Own {
			if k := faceOf(l, sym); k >= 0 {
				out[i][k] = true
			}
		}
	}
	for by := range l {
		for from := range l {
			for to := range l {
				out[from][to] = out[from][to] || out[from][by] && out[by][to]
			}
		}
	}
	return out
}

// checkRecursive tests that a symbol is recursive exactly if a way leads from it to itself, and how many are.
func checkRecursive(t *testing.T, l []api.Face) int {
	t.Helper()
	all, ways, n := reach.All(l), leads(l), 0
	for i, f := range l {
		if faceOf(l, f.Module) != i {
			continue
		}
		if got := reach.Recursive(f.Module, all[i]); got != ways[i][i] {
			t.Fatalf("%q is recursive: %v, in %s", f.Module, got, show(l))
		}
		if ways[i][i] {
			n++
		}
		for k, other := range l {
			if faceOf(l, other.Module) == k && reach.Recursive(other.Module, all[i]) != ways[i][k] {
				t.Fatalf("%q reaches %q, in %s", f.Module, all[i], show(l))
			}
		}
	}
	return n
}

func TestRecursiveMeansThatAWayLeadsBack(t *testing.T) {
	for text, want := range map[string][]bool{
		"f: g; g: g":                   {false, true},
		"f: g; g: f":                   {true, true},
		"f: g; g: h; h: f":             {true, true, true},
		"e: f; f: g h; g: f; h:":       {false, true, true, false},
		"f: g; g: h; h: i; i: h x; x:": {false, false, true, true, false},
		"f: g; g: x":                   {false, false},
		"f: F; F: f<int>; f<int>:":     {false, false, false},
		"-: f; f: -":                   {true, true},
	} {
		l := faces(text)
		checkRecursive(t, l)
		for i, list := range reach.All(l) {
			if reach.Recursive(l[i].Module, list) != want[i] {
				t.Errorf("%s: %q reaches %q", text, l[i].Module, list)
			}
		}
	}
	n, all := 0, 0
	everyFaces([]string{"a", "b", "c", "d"}, []string{"a", "b", "c", "d"}, func(l []api.Face) {
		n, all = n+checkRecursive(t, l), all+len(l)
	})
	if n < all/10 || n > all-all/10 {
		t.Errorf("%d of %d symbols are recursive", n, all)
	}
	d := &dice{169}
	for range 5000 {
		checkRecursive(t, d.distinct(1+d.roll(len(few)), 1+d.roll(3)))
		checkRecursive(t, d.faces(14, 1+d.roll(len(few)), 3))
	}
}
