package reach_test

import (
	"slices"
	"testing"

	"recompile/api"
	"recompile/reach"
)

// faceOf returns the index of the face that counts for a symbol, -1 if there is none.
func faceOf(l []api.Face, sym string) int {
	return slices.IndexFunc(l, func(f api.Face) bool { return f.Module == sym })
}

// follow returns what it was given, and what is on a way of calls from a face on, without a map.
func follow(l []api.Face, i int, seen []string) []string {
	if i < 0 {
		return seen
	}
	for _, sym := range l[i].Own {
		if !slices.Contains(seen, sym) {
			seen = follow(l, faceOf(l, sym), append(seen, sym))
		}
	}
	return seen
}

// checkWays tests that All is what is on the ways from each face, and that each list is Step of its Own and of the lists of the faces that it names.
func checkWays(t *testing.T, l []api.Face) [][]string {
	t.Helper()
	all := reach.All(l)
	if len(all) != len(l) {
		t.Fatalf("All of %s: %q", show(l), all)
	}
	for i, f := range l {
		if want := inserted(follow(l, i, nil)); !slices.Equal(all[i], want) {
			t.Fatalf("All of %s: the list %d is %q, but the ways go to %q", show(l), i, all[i], want)
		}
		var others [][]string
		for _, sym := range f.Own {
			if k := faceOf(l, sym); k >= 0 {
				others = append(others, all[k])
			}
		}
		if want := reach.Step(f.Own, others); !slices.Equal(all[i], want) {
			t.Fatalf("All of %s: the list %d is %q, but Step of the others %q", show(l), i, all[i], want)
		}
	}
	return all
}

// subset returns the elements of l whose bits are in n.
func subset(l []string, n int) []string {
	var out []string
	for i, s := range l {
		if n>>i&1 == 1 {
			out = append(out, s)
		}
	}
	return out
}

// everyFaces calls do with all faces of some modules with some of the syms as their Own.
func everyFaces(modules, syms []string, do func(l []api.Face)) {
	for n := range 1 << (len(modules) * len(syms)) {
		var l []api.Face
		for i, m := range modules {
			l = append(l, api.Face{Module: m, Own: subset(syms, n>>(i*len(syms)))})
		}
		do(l)
	}
}

func TestEveryTwoAndThreeFaces(t *testing.T) {
	check := func(l []api.Face) { checkWays(t, l) }
	everyFaces([]string{"a"}, []string{"c", "a", "b", ""}, check)
	everyFaces([]string{"a", "b"}, []string{"c", "a", "b", ""}, check)
	everyFaces([]string{"a", ""}, []string{"c", "a", "b", ""}, check)
	everyFaces([]string{"a", "b", "c"}, []string{"d", "b", "c", "a"}, check)
}

func TestEveryFourFaces(t *testing.T) {
	t.Parallel()
	everyFaces([]string{"a", "b", "c", "d"}, []string{"a", "b", "c", "d"}, func(l []api.Face) { checkWays(t, l) })
	everyFaces([]string{"b", "d", "a", "c"}, []string{"c", "b", "d", "a"}, func(l []api.Face) { checkWays(t, l) })
}

// There are several faces with one Module.
func TestEveryFourFacesOfFewModules(t *testing.T) {
	t.Parallel()
	for n := range 81 {
		var modules []string
		for range 4 {
			modules = append(modules, []string{"a", "b", "c"}[n%3])
			n /= 3
		}
		everyFaces(modules, []string{"a", "b", "c"}, func(l []api.Face) { checkWays(t, l) })
	}
}

// few are modules and symbols of generated faces.
var few = []string{"b", "e", "", "d", "a", "p::f<int>", "c", "p::f", "f", "g", "\xff", "h"}

// faces returns up to n faces, with up to calls calls each, of the first names of few.
func (d *dice) faces(n, names, calls int) []api.Face {
	var out []api.Face
	for range d.roll(n + 1) {
		out = append(out, api.Face{Module: few[d.roll(names)], Own: d.some(few[:names], calls)})
	}
	return out
}

// distinct returns faces of different modules.
func (d *dice) distinct(names, calls int) []api.Face {
	var out []api.Face
	for _, module := range shuffled(d, few[:names]) {
		if d.roll(8) > 0 {
			out = append(out, api.Face{Module: module, Own: d.some(few[:names], calls)})
		}
	}
	return out
}

func TestAllOfGeneratedFaces(t *testing.T) {
	d := &dice{166}
	for range 10000 {
		checkWays(t, d.faces(14, 1+d.roll(len(few)), d.roll(6)))
		checkWays(t, d.distinct(1+d.roll(len(few)), 1+d.roll(4)))
	}
}

// bits returns the bits of the symbols a, b and c in a list.
func bits(l []string) int {
	out := 0
	for _, sym := range l {
		out |= 1 << (sym[0] - 'a')
	}
	return out
}

// solutions calls do with all lists, as bits, of three faces for which each one is the union of its Own and of the lists that it names.
func solutions(l []api.Face, do func(lists [3]int)) {
	var own [3]int
	var next [3][]int
	for i, f := range l {
		own[i] = bits(f.Own)
		for _, sym := range f.Own {
			if k := faceOf(l, sym); k >= 0 {
				next[i] = append(next[i], k)
			}
		}
	}
	for n := range 1 << 9 {
		lists, good := [3]int{n & 7, n >> 3 & 7, n >> 6}, true
		for i := range l {
			want := own[i]
			for _, k := range next[i] {
				want |= lists[k]
			}
			good = good && lists[i] == want
		}
		if good {
			do(lists)
		}
	}
}

// Of all lists for which each one is Step of its Own and of the others, All returns the least ones.
func TestAllIsTheLeast(t *testing.T) {
	several := 0
	for n := range 27 {
		modules := []string{[]string{"a", "b", "c"}[n%3], []string{"b", "c", "a"}[n/3%3], []string{"c", "a", "b"}[n/9]}
		everyFaces(modules, []string{"a", "b", "c"}, func(l []api.Face) {
			all, count := reach.All(l), 0
			solutions(l, func(lists [3]int) {
				count++
				for i, list := range all {
					if bits(list)&^lists[i] != 0 {
						t.Fatalf("All of %s: %q, but there are the lists %b", show(l), all, lists)
					}
				}
			})
			if count == 0 {
				t.Fatalf("%s has no lists", show(l))
			}
			if count > 1 {
				several++
			}
		})
	}
	if several < 5000 {
		t.Errorf("only %d faces have several lists", several)
	}
}
