package shape_test

import (
	"strings"
	"testing"

	"recompile/api"
	"recompile/shape"
)

// wraps reports whether what another place makes stands in parentheses in this one.
func (p place) wraps(q place) bool {
	a := must("a")
	return !readsAs(strings.ReplaceAll(p.text, "@", q.with("a", a)), p.of(q.of(a)))
}

// tower is an expr in a place, which is in another place, and so on.
type tower struct {
	text string
	tree api.Tree
	top  place
}

func (w *tower) add(p place) {
	if w.top.text != "" && p.wraps(w.top) {
		w.text = "(" + w.text + ")"
	}
	w.text = strings.ReplaceAll(p.text, "@", w.text)
	w.tree = p.of(w.tree)
	w.top = p
}

// check tests the Source of what is built: there is one if and only if the parser reads the text. It returns whether it does.
func (w *tower) check(t *testing.T) bool {
	t.Helper()
	if !readsAs(w.text, w.tree) {
		checkSource(t, w.tree, "")
		return false
	}
	checkSource(t, w.tree, tight(w.text))
	return true
}

// onePlaces are the places of exprs with one hole in their text.
func onePlaces() []place {
	var out []place
	for _, p := range exprPlaces() {
		if strings.Count(p.text, "@") == 1 {
			out = append(out, p)
		}
	}
	return out
}

// flat reports whether any number of exprs can stand in this place of each other.
func flat(p place) bool {
	if p.text == "@.x" {
		return true
	}
	_, isLeft := strings.CutPrefix(p.text, "@")
	return isLeft && !p.wraps(p)
}

func TestSourceOfPlacesInThemselves(t *testing.T) {
	t.Parallel()
	for _, p := range onePlaces() {
		w := tower{text: "a", tree: must("a")}
		high := 0
		for w.check(t) && high < 2*api.MaxDepth {
			w.add(p)
			high++
		}
		if flat(p) != (high == 2*api.MaxDepth) || high < api.MaxDepth/2 {
			t.Errorf("%s is read only %d times in itself", p.text, high)
		}
	}
}

func TestSourceOfPlacesInOtherPlaces(t *testing.T) {
	t.Parallel()
	d := &dice{6}
	l := onePlaces()
	over := 0
	for range 100 {
		w := tower{text: "a", tree: must("a")}
		for range 2 * api.MaxDepth {
			w.add(one(d, l...))
			if !w.check(t) {
				over++
				break
			}
		}
		w.add(one(d, l...))
		w.check(t)
	}
	if over < 80 {
		t.Errorf("only %d towers are too high", over)
	}
}

func TestSourceOfItemsNearMaxDepth(t *testing.T) {
	for _, p := range exprItems() {
		for _, q := range places("-@", "1-@", "f(@)", "{@}") {
			w := tower{text: "a", tree: must("a")}
			for range api.MaxDepth - 5 {
				w.add(q)
			}
			over := 0
			for over < 3 {
				item := w
				item.add(p)
				if !item.check(t) {
					over++
				}
				w.add(q)
			}
		}
	}
}

func TestSourceAtMaxDepth(t *testing.T) {
	for _, c := range []struct {
		before, after string
		of            func(api.Tree) api.Tree
	}{
		{"-", "", func(x api.Tree) api.Tree { return tree(api.KUnary, "-", 0, x) }},
		{"f(", ")", func(x api.Tree) api.Tree { return tree(api.KCall, "f", 0, x) }},
		{"m!(1,", ")", func(x api.Tree) api.Tree { return tree(api.KExpand, "m", 0, must("1"), x) }},
		{"new T(", ",2)", func(x api.Tree) api.Tree { return tree(api.KNew, "T", 0, x, must("2")) }},
		{"{", "}", func(x api.Tree) api.Tree { return tree(api.KBlock, "", 0, x) }},
		{"{let x=", ";}", func(x api.Tree) api.Tree {
			return tree(api.KBlock, "", 0, tree(api.KLet, "x", 0, x), tree(api.KUnit, "", 0))
		}},
		{"if ", "{}else{}", func(x api.Tree) api.Tree { return tree(api.KIf, "", 0, x, must("{}"), must("{}")) }},
	} {
		x := must("1")
		for range api.MaxDepth - 1 {
			x = c.of(x)
		}
		checkSource(t, x, strings.Repeat(c.before, api.MaxDepth-1)+"1"+strings.Repeat(c.after, api.MaxDepth-1))
		checkSource(t, c.of(x), "")
		checkSource(t, c.of(c.of(x)), "")
	}
	right := must("1-1")
	for range api.MaxDepth - 1 {
		right = tree(api.KBinary, "-", 0, must("1"), right)
	}
	checkSource(t, right, strings.Repeat("1-(", api.MaxDepth-1)+"1-1"+strings.Repeat(")", api.MaxDepth-1))
	checkSource(t, tree(api.KBinary, "-", 0, must("1"), right), "")
	checkSource(t, tree(api.KBinary, "-", 0, right, must("1")), shape.Source(right)+"-1")
}

func TestSourceOfTypesAtMaxDepth(t *testing.T) {
	x := mustType("int")
	text := "int"
	for range api.MaxDepth - 1 {
		x = tree(api.KTypeOf, "A", 0, x)
		text = "A<" + text + ">"
	}
	over := tree(api.KTypeOf, "A", 0, x)
	checkSource(t, x, text)
	checkSource(t, over, "")
	for _, p := range places("const c:@=1;", "fn f(x:@){}", "fn f()->@{}", "type T{a:@}", "trait T{fn m(x:@);}", "trait T{fn m()->@;}", "impl T for @{}") {
		checkSource(t, p.of(x), tight(p.with(text, x)))
		checkSource(t, p.of(over), "")
	}
}
