package resolve_test

import (
	"slices"
	"strconv"
	"testing"

	"recompile/api"
	"recompile/resolve"
	"recompile/shape"
)

// deep returns a tree with n levels, each of which has the one before it behind some nodes.
func deep(n int, bottom api.Tree, level func(api.Tree) api.Tree) api.Tree {
	for range n {
		bottom = level(bottom)
	}
	return bottom
}

// lastOf returns the node that one comes to by the last Kids.
func lastOf(t api.Tree) api.Tree {
	for len(t.Kids) > 0 {
		t = t.Kids[len(t.Kids)-1]
	}
	return t
}

const levels = 60000

func TestDeepTrees(t *testing.T) {
	for _, c := range []struct {
		kind int
		text string
		want string
	}{{api.KTypeOf, "R", "p::R"}, {api.KCall, "R", "p::R"}, {api.KExpand, "R", "R"}, {api.KMacro, "m", "m"}, {api.KName, "R", "p::R"}, {api.KSupers, "", ""}, {api.KLet, "x", "x@0"}, {api.KImpl, "S", "p::S"}, {api.KSig, "m", "m"}, {0, "", ""}} {
		in := deep(levels, typeOf("R"), func(k api.Tree) api.Tree { return tree(c.kind, c.text, 0, k) })
		got := resolve.Resolve(in, binds(known))
		last := map[bool]string{true: "type R", false: "type p::R"}[c.kind == api.KMacro]
		if got.Tree.Text != c.want || shape.Count(got.Tree) != levels+1 || show(lastOf(got.Tree)) != last {
			t.Errorf("deep %s: %s", word(c.kind), show(lastOf(got.Tree)))
		}
	}
}

func TestDeepBlocks(t *testing.T) {
	in := deep(levels/2, name("x"), func(k api.Tree) api.Tree { return block(let("x"), let("y"), k) })
	got := resolve.Resolve(in, nil)
	if want := "local x@" + strconv.Itoa(levels-2); show(lastOf(got.Tree)) != want {
		t.Errorf("the variables of blocks: %s", show(lastOf(got.Tree)))
	}
	in = deep(levels, name("y"), func(k api.Tree) api.Tree { return block(let("x"), k, name("x")) })
	in.Kids = append(in.Kids, let("y"), name("y"))
	got = resolve.Resolve(in, nil)
	if s := show(got.Tree.Kids[4]); s != "local y@"+strconv.Itoa(levels) || len(got.Diags) != 1 {
		t.Errorf("behind blocks: %s", s)
	}
	in = deep(levels, name("x"), func(k api.Tree) api.Tree { return block(let("x", k), name("x")) })
	if s := show(lastOf(resolve.Resolve(in, nil).Tree)); s != "local x@0" {
		t.Errorf("blocks within lets: %s", s)
	}
}

func TestDeepFunctions(t *testing.T) {
	in := deep(levels/2, name("x"), func(k api.Tree) api.Tree { return fn(args(), block(k)) })
	in.Kids[0] = args("x")
	if s := show(lastOf(resolve.Resolve(in, nil).Tree)); s != "local x@0" {
		t.Errorf("functions without arguments: %s", s)
	}
	// as many functions as a definition can have
	n := api.MaxNodes / 4
	in = deep(n, name("x"), func(k api.Tree) api.Tree { return fn(args("x"), block(k)) })
	if s := show(lastOf(resolve.Resolve(in, nil).Tree)); s != "local x@"+strconv.Itoa(n-1) {
		t.Errorf("functions with arguments: %s", s)
	}
}

// A definition with MaxNodes nodes that has as many variables, or names, as it can.
func TestWideTrees(t *testing.T) {
	n := api.MaxNodes / 2
	var lets, names, texts []api.Tree
	var b []api.Bind
	for i := range n {
		text := "v" + strconv.Itoa(i)
		lets, names, texts = append(lets, let(text)), append(names, name(text)), append(texts, tree(api.KCall, text, 0))
		b = append(b, api.Bind{Name: text, Def: "p::" + text})
	}
	got := resolve.Resolve(block(slices.Concat(lets, names)...), nil)
	for i, k := range got.Tree.Kids[n:] {
		if text := "v" + strconv.Itoa(i) + "@" + strconv.Itoa(i); k.Kind != api.KLocal || k.Text != text || got.Tree.Kids[i].Text != text {
			t.Fatalf("the variable %d is %s", i, show(k))
		}
	}
	got = resolve.Resolve(block(texts[:2000]...), b)
	for i, k := range got.Tree.Kids {
		if k.Text != "p::v"+strconv.Itoa(i) {
			t.Fatalf("the call %d is %s", i, show(k))
		}
	}
	if len(got.Diags) != 0 {
		t.Errorf("%d diagnostics", len(got.Diags))
	}
	got = resolve.Resolve(block(names...), nil)
	if len(got.Diags) != n {
		t.Errorf("%d diagnostics", len(got.Diags))
	}
}
