package macros_test

import (
	"slices"
	"strconv"
	"strings"
	"testing"

	"recompile/api"
	"recompile/macros"
	"recompile/shape"
)

// ends returns the last Kid of the last Kid of a tree, and so on, and how many there are.
func ends(t api.Tree) (api.Tree, int) {
	n := 0
	for len(t.Kids) > 0 {
		t = t.Kids[len(t.Kids)-1]
		n++
	}
	return t, n
}

// Macros that expand to themselves, or to one another, are expanded MaxExpand times, or until there are too many nodes.
func TestMacrosThatExpandToThemselves(t *testing.T) {
	b := binds("m=p::m,n=p::n,o=p::o")
	for _, c := range []struct {
		in     string
		macros []string
		text   string // of the last KExpand
		depth  int    // of the KBad
	}{
		{"m!()", []string{"p::m() = m!()"}, "p::m", 0},
		{"1 + m!()", []string{"p::m() = m!()"}, "p::m", 1},
		{"m!()", []string{"p::m() = -m!()"}, "p::m", 200},
		{"m!()", []string{"p::m() = 1 + -m!()"}, "p::m", 400},
		{"m!(1)", []string{"p::m(x) = m!(x)"}, "p::m", 0},
		{"m!(1)", []string{"p::m(x) = -m!(x + x)"}, "p::m", 13}, // then there would be too many nodes
		{"m!()", []string{"p::m() = n!()", "p::n() = m!()"}, "p::m", 0},
		{"m!()", []string{"p::m() = n!()", "p::n() = -m!()"}, "p::m", 100},
		{"n!()", []string{"p::m() = -n!()", "p::n() = m!()"}, "p::n", 100},
		{"m!()", []string{"p::m() = n!()", "p::n() = -o!()", "p::o() = m!()"}, "p::o", 67},
		{"m!()", []string{"p::m() = n!()", "p::n() = o!()", "p::o() = -m!()"}, "p::o", 66},
		{"m!(0)", []string{"p::m(x) = x + n!(1)", "p::n(x) = m!(x)"}, "p::m", 100},
	} {
		got := macros.Expand(expr(t, c.in), b, prepared(t, b, c.macros...))
		last, depth := ends(got.Tree)
		at := strings.IndexByte(c.in, '!') - 1
		if show(last) != "bad "+c.text+"@"+strconv.Itoa(at) || depth != c.depth || showDiags(got.Diags) != "6@"+strconv.Itoa(at)+" "+c.text {
			t.Errorf("%s with %q: %s at %d, and %s", c.in, c.macros, show(last), depth, showDiags(got.Diags))
		}
	}
}

// A macro that comes twice in its own Body makes the first one again and again; all others are too many.
func TestAMacroThatComesTwiceInItsBody(t *testing.T) {
	b := binds("m=p::m")
	got := macros.Expand(call("m", 4), b, prepared(t, b, "p::m() = m!() + m!()"))
	if len(got.Diags) != api.MaxExpand+1 || shape.Count(got.Tree) != 2*api.MaxExpand+1 {
		t.Errorf("%d diagnostics, and %d nodes", len(got.Diags), shape.Count(got.Tree))
	}
	for n, at := 0, got.Tree; n < api.MaxExpand; n++ {
		if show(at.Kids[1]) != "bad p::m@4" {
			t.Fatalf("at the depth %d: %s", n, show(at.Kids[1]))
		}
		at = at.Kids[0]
	}
}

// many returns a block of n KExpands with the Ats from 1 on.
func many(n int, text string, args ...api.Tree) api.Tree {
	out := tree(api.KBlock, "", 0)
	for i := range n {
		out.Kids = append(out.Kids, call(text, i+1, args...))
	}
	return out
}

func TestMaxExpand(t *testing.T) {
	l := prepared(t, nil, "p::m(x) = { let v = x; }", "p::n() = 1")
	for _, n := range []int{1, api.MaxExpand - 1, api.MaxExpand, api.MaxExpand + 1, 3 * api.MaxExpand} {
		got := macros.Expand(many(n, "p::m", name("v")), nil, l)
		var want, diags []string
		for i := 1; i <= n; i++ {
			at := "@" + strconv.Itoa(i)
			if i <= api.MaxExpand {
				v := "v#" + strconv.Itoa(i)
				want = append(want, "block "+at+"(let "+v+at+"(name v@0), unit "+at+")")
				continue
			}
			want = append(want, "bad p::m"+at)
			diags = append(diags, "6"+at+" p::m")
		}
		if shows(got.Tree.Kids) != strings.Join(want, ", ") || showDiags(got.Diags) != strings.Join(diags, ", ") {
			t.Errorf("%d KExpands: %s, and %s", n, show(got.Tree), showDiags(got.Diags))
		}
	}
	// The codes that are named before CodeMacro come also behind MaxExpand expansions.
	in := many(api.MaxExpand, "p::n")
	in.Kids = append(in.Kids, call("none", 1), call("two", 2), call("p::some", 3), call("p::n", 4), call("p::m", 5), call("::n", 6))
	got := macros.Expand(in, binds("two=p::n,two=p::m"), l)
	if showDiags(got.Diags) != "4@1 none, 5@2 two, 7@3 p::some, 6@4 p::n, 6@5 p::m, 4@6 ::n" {
		t.Errorf("behind MaxExpand expansions: %s", showDiags(got.Diags))
	}
	if needs := macros.Needs(in, binds("two=p::n,two=p::m"), l); !slices.Equal(needs, []string{"p::some"}) {
		t.Errorf("behind MaxExpand expansions: %q", needs)
	}
	// What is no expansion does not count.
	in = many(2*api.MaxExpand, "none")
	in.Kids = append(in.Kids, many(api.MaxExpand, "p::n").Kids...)
	in.Kids = append(in.Kids, many(2, "p::n", name("x")).Kids...)
	in.Kids = append(in.Kids, call("p::n", 9))
	got = macros.Expand(in, nil, l)
	if n := len(got.Diags); n != 2*api.MaxExpand+3 || got.Diags[n-1].Node != 9 || got.Diags[n-4].Code != api.CodeUnresolved {
		t.Errorf("%d diagnostics, the last one %v", n, got.Diags[n-1])
	}
}

// checkLimit tests that the only KExpand of a tree, which has the At 7, is expanded exactly if the tree has not more than MaxNodes nodes then.
func checkLimit(t *testing.T, what string, in api.Tree, l []api.Macro, nodes int) {
	t.Helper()
	got := macros.Expand(in, nil, l)
	if nodes <= api.MaxNodes {
		if len(got.Diags) != 0 || shape.Count(got.Tree) != nodes {
			t.Errorf("%s, %d nodes: %d nodes, and %s", what, nodes, shape.Count(got.Tree), showDiags(got.Diags))
		}
		return
	}
	if showDiags(got.Diags) != "6@7 p::m" {
		t.Errorf("%s, %d nodes: %d nodes, and %s", what, nodes, shape.Count(got.Tree), showDiags(got.Diags))
	}
}

func TestMaxNodes(t *testing.T) {
	if api.MaxNodes != 20000 {
		t.Fatal("the sizes below are for 20000 nodes")
	}
	one := func(body api.Tree, params ...string) []api.Macro {
		return []api.Macro{{Def: "p::m", Params: params, Body: body}}
	}
	around := func(n int, in api.Tree) api.Tree {
		out := wide(n)
		out.Kids = append(out.Kids, in)
		return out
	}
	for _, more := range []int{-1000, -1, 0, 1, 2, 1000} {
		n := api.MaxNodes + more
		checkLimit(t, "a Body alone", call("p::m", 7), one(wide(n)), n)
		checkLimit(t, "an argument alone", call("p::m", 7, wide(n)), one(name("x"), "x"), n)
		checkLimit(t, "a Body in a tree", around(15000, call("p::m", 7)), one(wide(5000+more)), n)
		checkLimit(t, "an argument in a tree", around(15000, call("p::m", 7, wide(5000+more))), one(name("x"), "x"), n)
		checkLimit(t, "a tree around 1", around(n-1, call("p::m", 7)), one(name("y")), n)
		checkLimit(t, "an argument twice", call("p::m", 7, wide(4000)), one(tree(api.KBlock, "", 0, name("x"), wide(n-8001), name("x")), "x"), n)
		checkLimit(t, "two arguments", call("p::m", 7, wide(3000), wide(5000)), one(tree(api.KBlock, "", 0, name("y"), name("x"), name("y"), wide(n-13001)), "x", "y"), n)
		checkLimit(t, "an argument that is not used", around(n-1, call("p::m", 7, wide(9000))), one(name("y"), "x"), n)
		checkLimit(t, "an argument for a variable", call("p::m", 7, wide(9000)), one(tree(api.KLet, "x", 0, name("x"), wide(n-2)), "x"), n)
		checkLimit(t, "an argument for a KName with Kids", call("p::m", 7, wide(n)), one(tree(api.KName, "x", 0, wide(9000)), "x"), n)
		checkLimit(t, "of two with one Text the first", call("p::m", 7, wide(n), wide(3)), one(name("x"), "x", "x"), n)
		checkLimit(t, "of two with one Text the second", call("p::m", 7, wide(3), wide(n)), one(name("x"), "x", "x"), 3)
	}
}

// A tree that has more nodes from the beginning stays as it is, but for what makes it small enough.
func TestTreesWithMoreThanMaxNodes(t *testing.T) {
	got := macros.Expand(wide(3*api.MaxNodes), nil, nil)
	if len(got.Diags) != 0 || !shape.Same(got.Tree, wide(3*api.MaxNodes)) {
		t.Errorf("without a KExpand: %s", showDiags(got.Diags))
	}
	l := []api.Macro{{Def: "p::m", Params: []string{"x"}, Body: wide(10)}}
	for _, c := range []struct {
		around int
		diags  string
	}{{api.MaxNodes - 11, ""}, {api.MaxNodes - 10, ""}, {api.MaxNodes - 9, "6@7 p::m"}, {api.MaxNodes, "6@7 p::m"}, {3 * api.MaxNodes, "6@7 p::m"}} {
		in := wide(c.around)
		in.Kids = slices.Insert(in.Kids, 5, call("p::m", 7, wide(2*api.MaxNodes)))
		got := macros.Expand(in, nil, l)
		size := c.around + 10
		if c.diags != "" {
			size = c.around + 1
		}
		if showDiags(got.Diags) != c.diags || shape.Count(got.Tree) != size {
			t.Errorf("%d nodes around: %d nodes, and %s", c.around, shape.Count(got.Tree), showDiags(got.Diags))
		}
	}
}

// Each KExpand finds the tree as those before it have left it, and those behind it as they were.
func TestMaxNodesOfSeveralExpansions(t *testing.T) {
	body := func(def string, n int, params ...string) api.Macro {
		return api.Macro{Def: def, Params: params, Body: wide(n)}
	}
	l := []api.Macro{body("p::a", 10000), body("p::b", 9998), body("p::c", 9999), body("p::d", 19997), body("p::e", 19998), body("p::f", 19999), body("p::g", 4998, "x"), body("p::h", 4997, "x"),
		{Def: "p::i", Params: []string{"x"}, Body: name("x")}, body("p::j", 3)}
	for _, c := range []struct {
		in    []api.Tree
		size  int
		diags string
	}{
		{[]api.Tree{call("p::a", 1), call("p::b", 2)}, 19999, ""},
		{[]api.Tree{call("p::a", 1), call("p::c", 2)}, 20000, ""},
		{[]api.Tree{call("p::a", 1), call("p::a", 2)}, 10002, "6@2 p::a"},
		{[]api.Tree{call("p::a", 1), call("p::c", 2), call("p::j", 3)}, 10002 + 3, "6@2 p::c"},
		{[]api.Tree{call("p::a", 1), call("p::b", 2), call("p::j", 3)}, 20000, "6@3 p::j"},
		// what a KBad loses is free for the next ones
		{[]api.Tree{call("none", 1, wide(30000)), call("p::e", 2)}, 20000, "4@1 none"},
		{[]api.Tree{call("none", 1, wide(30000)), call("p::f", 2)}, 3, "4@1 none, 6@2 p::f"},
		{[]api.Tree{call("p::j", 1, wide(30000)), call("p::e", 2)}, 20000, "6@1 p::j"},
		{[]api.Tree{call("p::j", 1, wide(30000)), call("p::f", 2)}, 3, "6@1 p::j, 6@2 p::f"},
		{[]api.Tree{call("p::d", 1), call("none", 2, wide(3))}, 3, "6@1 p::d, 4@2 none"},
		{[]api.Tree{call("p::d", 1), call("none", 2)}, 19999, "4@2 none"},
		{[]api.Tree{call("p::e", 1), call("none", 2)}, 20000, "4@2 none"},
		{[]api.Tree{call("p::f", 1), call("none", 2)}, 3, "6@1 p::f, 4@2 none"},
		// and so is an argument that is not used
		{[]api.Tree{call("p::h", 1, wide(15000)), wide(15000)}, 19998, ""},
		{[]api.Tree{call("p::g", 1, wide(30000)), wide(15001)}, 20000, ""},
		{[]api.Tree{call("p::g", 1, wide(30000)), wide(15002)}, 15004, "6@1 p::g"},
		// an argument that stands behind counts while it is there
		{[]api.Tree{call("p::h", 1, wide(9)), call("p::h", 2, wide(15001))}, 9995, ""},
		{[]api.Tree{call("p::h", 1, wide(9)), call("p::h", 2, wide(15002))}, 4999, "6@1 p::h"},
		{[]api.Tree{call("p::i", 1, call("p::i", 2, wide(19999)))}, 2, "6@1 p::i"},
		{[]api.Tree{call("p::i", 1, call("p::i", 2, wide(19998)))}, 19999, ""},
	} {
		in := tree(api.KBlock, "", 0, c.in...)
		got := macros.Expand(in, nil, l)
		if shape.Count(got.Tree) != c.size || showDiags(got.Diags) != c.diags {
			var what []string
			for _, k := range c.in {
				what = append(what, k.Text+" of "+strconv.Itoa(shape.Count(k)))
			}
			t.Errorf("%q: %d nodes, and %s", what, shape.Count(got.Tree), showDiags(got.Diags))
		}
	}
}

// What would be very large is not made.
func TestExpansionsThatWouldBeVeryLarge(t *testing.T) {
	body := tree(api.KBlock, "", 0, slices.Repeat([]api.Tree{name("x")}, 100000)...)
	l := []api.Macro{{Def: "p::m", Params: []string{"x"}, Body: body}, {Def: "p::n", Params: []string{"x"}, Body: tree(api.KBinary, "*", 0, name("x"), name("x"))}}
	in := many(300, "p::m", wide(10000))
	if got := macros.Expand(in, nil, l); len(got.Diags) != 300 || shape.Count(got.Tree) != 301 {
		t.Errorf("%d diagnostics", len(got.Diags))
	}
	tower := name("a")
	for range 40 {
		tower = call("p::n", 3, tower)
	}
	if got := macros.Expand(tower, nil, l); len(got.Diags) == 0 || shape.Count(got.Tree) > api.MaxNodes {
		t.Errorf("a tower: %d nodes, and %d diagnostics", shape.Count(got.Tree), len(got.Diags))
	}
	if got := macros.Expand(deep(60000, tower), nil, l); len(got.Diags) != 1 || shape.Count(got.Tree) != 60001 {
		t.Errorf("a tower on a tower: %d diagnostics", len(got.Diags))
	}
}

// deep returns a tower of n nodes on another tree.
func deep(n int, on api.Tree) api.Tree {
	for range n {
		on = tree(api.KUnary, "-", 0, on)
	}
	return on
}

func TestDeepTrees(t *testing.T) {
	n := 60000
	in := tree(api.KMacro, "m", 0, tree(api.KArgs, "", 0, name("x")), deep(n, tree(api.KBinary, "+", 0, name("x"), name("y"))))
	m := macros.Prepare("p::m", in, binds("y=p::y"))
	if last, depth := ends(m.Body); last.Text != "p::y" || depth != n+1 {
		t.Errorf("Prepare: %s at %d", show(last), depth)
	}
	got := macros.Expand(deep(n, call("p::n", 1)), nil, nil)
	if last, depth := ends(got.Tree); show(last) != "bad p::n@1" || depth != n {
		t.Errorf("Expand: %s at %d", show(last), depth)
	}
	if needs := macros.Needs(deep(n, call("p::n", 1)), nil, []api.Macro{m}); !slices.Equal(needs, []string{"p::n"}) {
		t.Errorf("Needs: %q", needs)
	}
	m.Body = deep(9000, name("x"))
	got = macros.Expand(deep(1000, call("p::m", 1, deep(9999, name("a")))), nil, []api.Macro{m})
	if last, depth := ends(got.Tree); show(last) != "name a@0" || depth != 19999 || len(got.Diags) != 0 {
		t.Errorf("Expand of a deep Body with a deep argument: %s at %d", show(last), depth)
	}
}
