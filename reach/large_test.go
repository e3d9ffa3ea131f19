package reach_test

import (
	"slices"
	"strconv"
	"testing"

	"recompile/api"
	"recompile/reach"
)

// numbered returns so many names, ascending.
func numbered(n int) []string {
	var out []string
	for i := range n {
		out = append(out, "p::f"+strconv.Itoa(100000+i))
	}
	return out
}

// facesOf returns, for each name, a face with the calls that own returns for its number.
func facesOf(names []string, own func(i int) []string) []api.Face {
	var out []api.Face
	for i, name := range names {
		out = append(out, api.Face{Module: name, Own: own(i)})
	}
	return out
}

// checkLarge tests what faces reach, as they stand, the other way round and in an order that looks accidental.
func checkLarge(t *testing.T, l []api.Face, want func(i int) []string) {
	t.Helper()
	back := make([]int, len(l))
	for i := range l {
		back[i] = len(l) - 1 - i
	}
	number := map[string]int{}
	for i, f := range l {
		number[f.Module] = i
	}
	d := &dice{170}
	for _, order := range [][]int{d.order(len(l)), back, slices.Sorted(slices.Values(back))} {
		var other []api.Face
		for _, i := range order {
			other = append(other, l[i])
		}
		for k, list := range reach.All(other) {
			if !slices.Equal(list, want(order[k])) {
				t.Fatalf("the face %d of %d reaches %d symbols, expected %d", order[k], len(l), len(list), len(want(order[k])))
			}
		}
	}
}

func TestAllOfAChainInEveryOrder(t *testing.T) {
	for n := 1; n < 8; n++ {
		names := numbered(n + 1)
		l := facesOf(names[:n], func(i int) []string { return names[i+1 : i+2] })
		orders(n, func(order []int) {
			var other []api.Face
			for _, i := range order {
				other = append(other, l[i])
			}
			for k, list := range reach.All(other) {
				if !slices.Equal(list, names[order[k]+1:]) {
					t.Fatalf("All of %s: the list %d is %q", show(other), k, list)
				}
			}
		})
	}
}

func TestAllOfLongChainsAndRings(t *testing.T) {
	n := 1500
	names := numbered(n + 1)
	chain := facesOf(names[:n], func(i int) []string { return names[i+1 : i+2] })
	checkLarge(t, chain, func(i int) []string { return names[i+1:] })
	ring := slices.Clone(chain)
	ring[n-1].Own = []string{names[n], names[0]}
	checkLarge(t, ring, func(i int) []string { return names })
	// a chain that ends in a ring
	half := slices.Clone(chain)
	half[n-1].Own = []string{names[n/2], names[n]}
	checkLarge(t, half, func(i int) []string { return names[min(i+1, n/2):] })
	// a ring of calls in both directions
	both := facesOf(names[:n], func(i int) []string { return []string{names[max(i-1, 0)], names[min(i+1, n-1)]} })
	checkLarge(t, both, func(i int) []string { return names[:n] })
}

func TestAllOfManyCalls(t *testing.T) {
	names := numbered(800)
	all := facesOf(names, func(i int) []string { return names })
	checkLarge(t, all, func(i int) []string { return names })
	up := facesOf(names, func(i int) []string { return names[i+1:] })
	checkLarge(t, up, func(i int) []string { return names[i+1:] })
	down := facesOf(names, func(i int) []string { return names[:i] })
	checkLarge(t, down, func(i int) []string { return names[:i] })
}

// In a ladder there are two ways more with each step, so there are very many.
func TestAllOfWaysThatMeetAgain(t *testing.T) {
	n := 1000
	names := numbered(n + 2)
	ladder := facesOf(names[:n], func(i int) []string { return names[(i|1)+1 : (i|1)+3] })
	checkLarge(t, ladder, func(i int) []string { return names[(i|1)+1:] })
}

// A face with many calls, each several times, and many faces with few calls.
func TestAllOfFacesThatAreCalledOften(t *testing.T) {
	names := numbered(20000)
	l := []api.Face{{Module: "all", Own: slices.Concat(names, []string{"x"}, names, names)}, {Module: "often", Own: slices.Repeat([]string{"all"}, 20000)}}
	want := append(slices.Clone(names), "x")
	checkAll(t, l, [][]string{want, append([]string{"all"}, want...)})
	l = facesOf(names, func(i int) []string { return []string{"lib", names[i%10]} })
	checkLarge(t, l, func(i int) []string { return []string{"lib", names[i%10]} })
}
