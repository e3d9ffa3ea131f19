package shape_test

import (
	"testing"

	"recompile/api"
	"recompile/shape"
)

// results returns the trees that the functions return for a tree.
func results(x api.Tree) []api.Tree {
	first, _ := shape.Nth(x, 0)
	last, _ := shape.Nth(x, shape.Count(x)-1)
	read, _ := shape.Decode(shape.Encode(x))
	return []api.Tree{shape.Strip(x), shape.Number(x), first, last, read}
}

// spoil changes all that a tree has, and what its kids have room for.
func spoil(t *api.Tree) {
	for i := range t.Kids {
		spoil(&t.Kids[i])
	}
	clear(t.Kids[:cap(t.Kids)])
	*t = api.Tree{Kind: api.KBad, Text: "spoilt"}
}

// grow adds nodes to the kids of all nodes of a tree.
func grow(t api.Tree) {
	for _, k := range t.Kids {
		grow(k)
	}
	_ = append(t.Kids, api.Tree{Kind: api.KBad, Text: "grown"}, api.Tree{Kind: api.KBad})
}

// roomy returns a tree whose kids have room behind them, with a node there.
func roomy(t api.Tree) api.Tree {
	kids := make([]api.Tree, 0, len(t.Kids)+2)
	for _, k := range t.Kids {
		kids = append(kids, roomy(k))
	}
	t.Kids = append(kids, tree(api.KBad, "behind", 9))[:len(t.Kids)]
	return t
}

// behind reports whether there is still the node behind the kids of all nodes.
func behind(t api.Tree) bool {
	for _, k := range t.Kids {
		if !behind(k) {
			return false
		}
	}
	return sameTree(t.Kids[:len(t.Kids)+1][len(t.Kids)], tree(api.KBad, "behind", 9))
}

func TestArgumentsStayAsTheyAre(t *testing.T) {
	for _, x := range someTrees() {
		arg := roomy(x)
		results(arg)
		shape.Same(arg, arg)
		shape.Source(arg)
		if !sameTree(arg, x) || !behind(arg) {
			t.Errorf("%s became %s", shown(x), shown(arg))
		}
	}
}

func TestResultsAreNew(t *testing.T) {
	for _, x := range someTrees() {
		want := results(x)
		for i := range want {
			want[i] = clone(want[i])
		}
		arg := roomy(x)
		for _, got := range results(arg) {
			grow(got)
			spoil(&got)
		}
		again := results(arg)
		if !sameTree(arg, x) || !behind(arg) {
			t.Errorf("%s became %s", shown(x), shown(arg))
		}
		for _, n := range all(&arg) {
			n.Kind, n.Text, n.At = api.KBad, "changed", 8
		}
		for i, got := range again {
			grow(got)
			if !sameTree(got, want[i]) {
				t.Errorf("result %d of %s became %s", i, shown(x), shown(got))
			}
		}
	}
}
