package reach

import (
	"math"
	"slices"

	"recompile/api"
)

// walk goes along the calls from face to face. Faces that reach each other are a ring; as they reach the same, this is put together once for all of them.
type walk struct {
	faces  []api.Face
	first  map[string]int // the face that counts for a Module
	came   int            // how many faces the walk has come to
	places []int          // when the walk came to each face, from 1 on; MaxInt, as soon as its ring is complete
	open   []int          // the faces whose rings are not complete, in the order of their places
	lists  [][]string     // what the faces of complete rings reach
}

func newWalk(l []api.Face) *walk {
	w := &walk{faces: l, first: map[string]int{}, places: make([]int, len(l)), lists: make([][]string, len(l))}
	for i, f := range slices.Backward(l) {
		w.first[f.Module] = i
	}
	return w
}

// visit walks on from a face, unless the walk was there, and returns the least place to which this has led. If it has led to no face before this one, the faces that are open from this one on are a ring.
func (w *walk) visit(i int) int {
	if w.places[i] > 0 {
		return w.places[i]
	}
	w.came++
	w.places[i] = w.came
	least, ring := w.came, len(w.open)
	w.open = append(w.open, i)
	for _, sym := range w.faces[i].Own {
		if next, ok := w.first[sym]; ok {
			least = min(least, w.visit(next))
		}
	}
	if least == w.places[i] {
		w.complete(w.open[ring:])
		w.open = w.open[:ring]
	}
	return least
}

// complete finds what the faces of a ring reach: their calls, and what these reach that are not of the ring.
func (w *walk) complete(ring []int) {
	reached := set{}
	for _, i := range ring {
		for _, sym := range w.inOrder(w.faces[i].Own) {
			if !reached[sym] {
				reached[sym] = true
				reached.add(w.reachedBy(sym))
			}
		}
	}
	list := reached.list()
	for _, i := range ring {
		w.lists[i], w.places[i] = slices.Clone(list), math.MaxInt
	}
}

// inOrder returns the calls that are still to be followed. Those that reach most come first: they mostly reach the others too, which then need not be followed.
func (w *walk) inOrder(calls []string) []string {
	rest := make([]string, len(calls))
	copy(rest, calls)
	slices.SortFunc(rest, func(a, b string) int { return len(w.reachedBy(b)) - len(w.reachedBy(a)) })
	return rest
}

// reachedBy returns what a symbol reaches, and nothing as long as its ring is not complete.
func (w *walk) reachedBy(sym string) []string {
	if i, ok := w.first[sym]; ok {
		return w.lists[i]
	}
	return nil
}
