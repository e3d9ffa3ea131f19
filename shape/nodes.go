package shape

import (
	"iter"
	"recompile/api"
	"slices"
)

// nodes goes through the nodes of a tree with their numbers: each node before those below it.
func nodes(t *api.Tree) iter.Seq2[int, *api.Tree] {
	return func(yield func(int, *api.Tree) bool) {
		left := []*api.Tree{t} // The node that comes next is the last one.
		for number := 0; len(left) > 0; number++ {
			n := left[len(left)-1]
			if !yield(number, n) {
				return
			}
			left = left[:len(left)-1]
			for i := range slices.Backward(n.Kids) {
				left = append(left, &n.Kids[i])
			}
		}
	}
}

// copied returns a tree that shares no memory with t.
func copied(t api.Tree) api.Tree {
	t.Kids = slices.Clone(t.Kids)
	for i, k := range t.Kids {
		t.Kids[i] = copied(k)
	}
	return t
}
