package shape_test

import (
	"math"
	"slices"
	"strconv"
	"strings"

	"recompile/api"
)

func tree(kind int, text string, at int, kids ...api.Tree) api.Tree {
	return api.Tree{Kind: kind, Text: text, At: at, Kids: kids}
}

// sameTree reports whether trees are equal; no kids and nil are.
func sameTree(a, b api.Tree) bool {
	return a.Kind == b.Kind && a.Text == b.Text && a.At == b.At && slices.EqualFunc(a.Kids, b.Kids, sameTree)
}

// alike reports whether trees are equal but for their Ats.
func alike(a, b api.Tree) bool {
	return a.Kind == b.Kind && a.Text == b.Text && slices.EqualFunc(a.Kids, b.Kids, alike)
}

// shown returns the beginning of the text of a tree, in quotes.
func shown(t api.Tree) string {
	s := textOf(t)
	return strconv.Quote(s[:min(len(s), 300)])
}

func isZero(t api.Tree) bool { return sameTree(t, api.Tree{}) }

// clone returns a tree with memory of its own, and without room behind its kids.
func clone(t api.Tree) api.Tree {
	out := tree(t.Kind, t.Text, t.At)
	for _, k := range t.Kids {
		out.Kids = append(out.Kids, clone(k))
	}
	out.Kids = slices.Clip(out.Kids)
	return out
}

// all returns pointers to the nodes of a tree: each node before those below it, and these from the first one on.
func all(t *api.Tree) []*api.Tree {
	var out []*api.Tree
	var add func(t *api.Tree)
	add = func(t *api.Tree) {
		out = append(out, t)
		for i := range t.Kids {
			add(&t.Kids[i])
		}
	}
	add(t)
	return out
}

// deep returns a tree of n levels.
func deep(n int) api.Tree {
	t := tree(api.KInt, "1", 7)
	for range n - 1 {
		t = tree(api.KUnary, "-", 5, t)
	}
	return t
}

// wide returns a tree of one node with n nodes below it.
func wide(n int) api.Tree {
	t := tree(api.KCall, "f", 3)
	for i := range n {
		t.Kids = append(t.Kids, tree(api.KInt, "1", i))
	}
	return t
}

// dice are numbers that look accidental and are the same in every run.
type dice struct{ state uint64 }

// roll returns a number from 0 to n-1.
func (d *dice) roll(n int) int {
	d.state = d.state*6364136223846793005 + 1442695040888963407
	return int(d.state>>33) % n
}

// one returns one element of a list.
func one[T any](d *dice, l ...T) T { return l[d.roll(len(l))] }

func (d *dice) number() int {
	return one(d, 0, 1, -1, 9, 10, -10, 21, 99, 100, 1<<40, -1<<40, math.MaxInt, math.MinInt, math.MaxInt-1, math.MinInt+1, d.roll(1000), -d.roll(1000))
}

func (d *dice) text() string {
	b := make([]byte, d.roll(12))
	for i := range b {
		b[i] = byte(d.roll(256))
	}
	return one(d, "", "a", "+", "(", ")", ":", "()", "1:", "-1", "0:0:0:()", "21:0:4:true()", "\x00", "\xff", "é", "\n", strings.Repeat("x", 123), string(b))
}

// anyTree returns a tree of at most n nodes such as no parser makes.
func anyTree(d *dice, n int) api.Tree {
	t := tree(d.number(), d.text(), d.number())
	for left := n - 1; left > 0 && d.roll(4) > 0; {
		k := 1 + d.roll(left)
		t.Kids = append(t.Kids, anyTree(d, k))
		left -= k
	}
	return t
}

// fewTrees are trees that differ from each other.
func fewTrees() []api.Tree {
	leaf := tree(api.KInt, "1", 2)
	other := tree(api.KInt, "2", 1)
	return []api.Tree{
		{}, leaf, other, tree(api.KName, "1", 2), tree(api.KInt, "12", 0), tree(api.KInt, "", 12), tree(1, "2", 1), tree(-1, "", 0), tree(0, "", -1),
		tree(0, "", 0, api.Tree{}), tree(0, "", 0, api.Tree{}, api.Tree{}), tree(0, "", 0, tree(0, "", 0, api.Tree{})),
		tree(0, "()", 0), tree(0, "(", 0), tree(0, ")", 0), tree(0, "0:0:0:()", 0), tree(0, "(0:0:0:()", 0), tree(0, ":", 0),
		tree(api.KCall, "f", 0, leaf), tree(api.KCall, "f", 0, leaf, other), tree(api.KCall, "f", 0, other, leaf), tree(api.KCall, "f", 0, leaf, leaf),
		tree(api.KCall, "f", 0, tree(api.KUnary, "-", 0, leaf), other), tree(api.KCall, "f", 0, tree(api.KUnary, "-", 0, leaf, other)),
		tree(api.KCall, "f", 0, leaf, tree(api.KUnary, "-", 0, other)), tree(math.MaxInt, "", math.MinInt), tree(math.MinInt, "", math.MaxInt),
	}
}

// someTrees are trees of all forms, small and great.
func someTrees() []api.Tree {
	l := append(fewTrees(), deep(2), deep(300), wide(1), wide(300), tree(0, strings.Repeat("\x00(", 20000), 0, wide(3), deep(3)))
	d := &dice{1}
	for n := range 300 {
		l = append(l, anyTree(d, 1+n%40))
	}
	return l
}
