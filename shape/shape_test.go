package shape_test

import (
	"math"
	"testing"

	"recompile/api"
	"recompile/shape"
)

// sample returns a tree of seven nodes on four levels.
func sample() api.Tree {
	return tree(api.KIf, "", 50,
		tree(api.KBinary, "<", 40, tree(api.KName, "a", 40), tree(api.KInt, "2", -3)),
		tree(api.KBlock, "", 7, tree(api.KDo, "", 6, tree(api.KUnit, "", math.MaxInt))))
}

func TestStrip(t *testing.T) {
	want := tree(api.KIf, "", 0,
		tree(api.KBinary, "<", 0, tree(api.KName, "a", 0), tree(api.KInt, "2", 0)),
		tree(api.KBlock, "", 0, tree(api.KDo, "", 0, tree(api.KUnit, "", 0))))
	if got := shape.Strip(sample()); !sameTree(got, want) {
		t.Errorf("Strip: %s", shown(got))
	}
	for _, x := range someTrees() {
		want := clone(x)
		for _, n := range all(&want) {
			n.At = 0
		}
		if got := shape.Strip(x); !sameTree(got, want) {
			t.Errorf("Strip(%s) = %s", shown(x), shown(got))
		}
	}
}

func TestNumber(t *testing.T) {
	want := tree(api.KIf, "", 0,
		tree(api.KBinary, "<", 1, tree(api.KName, "a", 2), tree(api.KInt, "2", 3)),
		tree(api.KBlock, "", 4, tree(api.KDo, "", 5, tree(api.KUnit, "", 6))))
	if got := shape.Number(sample()); !sameTree(got, want) {
		t.Errorf("Number: %s", shown(got))
	}
	for _, x := range someTrees() {
		want := clone(x)
		for k, n := range all(&want) {
			n.At = k
		}
		if got := shape.Number(x); !sameTree(got, want) {
			t.Errorf("Number(%s) = %s", shown(x), shown(got))
		}
	}
}

func TestCount(t *testing.T) {
	if got := shape.Count(sample()); got != 7 {
		t.Errorf("Count: %d", got)
	}
	if got := shape.Count(api.Tree{}); got != 1 {
		t.Errorf("Count of the zero tree: %d", got)
	}
	for _, x := range someTrees() {
		if got, want := shape.Count(x), len(all(&x)); got != want {
			t.Errorf("Count(%s) = %d, expected %d", shown(x), got, want)
		}
	}
}

func TestNth(t *testing.T) {
	for k, want := range []api.Tree{
		sample(), sample().Kids[0], tree(api.KName, "a", 40), tree(api.KInt, "2", -3),
		sample().Kids[1], tree(api.KDo, "", 6, tree(api.KUnit, "", math.MaxInt)), tree(api.KUnit, "", math.MaxInt),
	} {
		if got, ok := shape.Nth(sample(), k); !ok || !sameTree(got, want) {
			t.Errorf("Nth(%d) = %s, %v, expected %s", k, shown(got), ok, shown(want))
		}
	}
	for _, x := range someTrees() {
		l := all(&x)
		for k, want := range l {
			if got, ok := shape.Nth(x, k); !ok || !sameTree(got, *want) {
				t.Errorf("Nth(%s, %d) = %s, %v", shown(x), k, shown(got), ok)
			}
		}
		for _, k := range []int{-1, -2, -len(l), math.MinInt, len(l), len(l) + 1, 2 * len(l), math.MaxInt} {
			if got, ok := shape.Nth(x, k); ok || !isZero(got) {
				t.Errorf("Nth(%s, %d) = %s, %v", shown(x), k, shown(got), ok)
			}
		}
	}
}

func TestSame(t *testing.T) {
	l := fewTrees()
	for i, a := range l {
		for k, b := range l {
			if got := shape.Same(a, clone(b)); got != (i == k) {
				t.Errorf("Same(%s, %s) = %v", shown(a), shown(b), got)
			}
		}
	}
	for _, x := range someTrees() {
		if !shape.Same(x, clone(x)) || !shape.Same(x, x) {
			t.Errorf("%s is not the same", shown(x))
		}
	}
}

func TestNoKids(t *testing.T) {
	none := tree(api.KCall, "f", 1)
	empty := api.Tree{Kind: api.KCall, Text: "f", At: 1, Kids: []api.Tree{}}
	room := api.Tree{Kind: api.KCall, Text: "f", At: 1, Kids: make([]api.Tree, 0, 3)}
	for _, a := range []api.Tree{none, empty, room} {
		for _, b := range []api.Tree{none, empty, room} {
			if !shape.Same(a, b) || !shape.Same(tree(1, "", 0, a), tree(1, "", 0, b)) {
				t.Errorf("%#v is not the same as %#v", a, b)
			}
			if shape.Encode(a) != shape.Encode(b) || shape.Source(a) != shape.Source(b) || shape.Count(a) != shape.Count(b) {
				t.Errorf("%#v gives something else than %#v", a, b)
			}
		}
	}
}

// different returns trees each of which differs from t in one place.
func different(x api.Tree) []api.Tree {
	var out []api.Tree
	for k := range all(&x) {
		for _, change := range []func(n *api.Tree){
			func(n *api.Tree) { n.Kind++ },
			func(n *api.Tree) { n.Kind = -n.Kind - 1 },
			func(n *api.Tree) { n.Text += "x" },
			func(n *api.Tree) { n.Text = "\x00" + n.Text },
			func(n *api.Tree) { n.At++ },
			func(n *api.Tree) { n.At = -n.At - 1 },
			func(n *api.Tree) { n.Kids = append(n.Kids, api.Tree{}) },
			func(n *api.Tree) { n.Kids = append([]api.Tree{{}}, n.Kids...) },
		} {
			c := clone(x)
			change(all(&c)[k])
			out = append(out, c)
		}
		if c := clone(x); len(all(&c)[k].Kids) > 0 {
			n := all(&c)[k]
			n.Kids = n.Kids[:len(n.Kids)-1]
			out = append(out, c)
		}
	}
	return out
}

func TestSameComparesEachPart(t *testing.T) {
	for _, x := range []api.Tree{{}, sample(), tree(1, "a", 1), deep(20), wide(20), anyTree(&dice{2}, 30)} {
		for _, y := range different(x) {
			if shape.Same(x, y) || shape.Same(y, x) {
				t.Errorf("%s is the same as %s", shown(x), shown(y))
			}
			if shape.Encode(x) == shape.Encode(y) {
				t.Errorf("%s has the text of %s", shown(x), shown(y))
			}
		}
	}
}

func TestManyLevelsAndManyKids(t *testing.T) {
	t.Parallel()
	const most = 1 << 16
	down := deep(most)
	if got := shape.Count(down); got != most {
		t.Errorf("Count of %d levels: %d", most, got)
	}
	if got, ok := shape.Nth(down, most-1); !ok || !sameTree(got, tree(api.KInt, "1", 7)) {
		t.Errorf("the last one of %d levels: %s, %v", most, shown(got), ok)
	}
	if !shape.Same(down, deep(most)) || shape.Same(down, deep(most-1)) {
		t.Errorf("Same of %d levels", most)
	}
	last, ok := shape.Nth(shape.Number(down), most-1)
	if !ok || last.At != most-1 {
		t.Errorf("Number of %d levels ends with %s", most, shown(last))
	}
	last, ok = shape.Nth(shape.Strip(down), most-1)
	if !ok || last.At != 0 {
		t.Errorf("Strip of %d levels ends with %s", most, shown(last))
	}
	if got, ok := shape.Decode(shape.Encode(down)); !ok || !sameTree(got, down) {
		t.Errorf("Decode of %d levels: %v", most, ok)
	}
	if got := shape.Source(down); got != "" {
		t.Errorf("Source of %d levels: %.20q", most, got)
	}
	flat := wide(300000)
	if got := shape.Count(flat); got != 300001 {
		t.Errorf("Count of many kids: %d", got)
	}
	if got, ok := shape.Nth(flat, 300000); !ok || !sameTree(got, tree(api.KInt, "1", 299999)) {
		t.Errorf("the last one of many kids: %s, %v", shown(got), ok)
	}
	if got := shape.Number(flat); len(got.Kids) != 300000 || got.Kids[299999].At != 300000 {
		t.Errorf("Number of many kids has %d", len(got.Kids))
	}
	if got, ok := shape.Decode(shape.Encode(flat)); !ok || !sameTree(got, flat) {
		t.Errorf("Decode of many kids: %v", ok)
	}
	if got := shape.Source(flat); got != "" {
		t.Errorf("Source of many kids: %.20q", got)
	}
}
