package resolve_test

import (
	"slices"
	"strconv"
	"strings"
	"testing"

	"recompile/api"
	"recompile/resolve"
	"recompile/shape"
)

// eachNode goes through the nodes of a tree, each one before those below it.
func eachNode(t *api.Tree, do func(*api.Tree)) {
	do(t)
	for i := range t.Kids {
		eachNode(&t.Kids[i], do)
	}
}

// generated returns a tree that is mostly a function.
func (d *dice) generated() api.Tree {
	in := d.tree([]int{api.KModule, api.KFn, api.KFn, api.KBlock, api.KImpl}[d.roll(5)], 3+d.roll(3))
	if d.roll(3) > 0 {
		in.Kids = slices.Insert(in.Kids, 0, params("T", d.text()), args("x", d.text()))
	}
	return in
}

// dense returns a tree of blocks and functions with many variables.
func (d *dice) dense(depth int) api.Tree {
	text := d.pick("x", "x", "y", "z", "x@0")
	if depth == 0 {
		return tree([]int{api.KName, api.KName, api.KAssign, api.KLet}[d.roll(4)], text, 0)
	}
	var kids []api.Tree
	for range 1 + d.roll(6) {
		kids = append(kids, d.dense(d.roll(depth)))
	}
	switch d.roll(4) {
	case 0:
		return fn(slices.Insert(kids, d.roll(len(kids)), args(text, d.pick("x", "y")))...)
	case 1:
		return let(text, kids...)
	}
	return block(kids...)
}

func TestPlacesDoNotMatter(t *testing.T) {
	d := &dice{82}
	for range 4000 {
		in, b := shape.Number(d.generated()), d.binds()
		got := resolve.Resolve(in, b)
		places := make([]int, shape.Count(in))
		for i := range places {
			places[i] = d.roll(1000) - 500
		}
		other := shape.Number(in)
		eachNode(&other, func(n *api.Tree) { n.At = places[n.At] })
		moved := resolve.Resolve(other, b)
		want := got.Tree
		eachNode(&want, func(n *api.Tree) { n.At = places[n.At] })
		for i := range got.Diags {
			got.Diags[i].Node = places[got.Diags[i].Node]
		}
		if !shape.Same(moved.Tree, want) || !slices.Equal(moved.Diags, got.Diags) {
			t.Fatalf("%s with other places: %s, with %s", show(in), show(moved.Tree), showDiags(moved.Diags))
		}
	}
}

// textsOf returns the Texts of a tree.
func textsOf(in api.Tree) []string {
	var out []string
	eachNode(&in, func(n *api.Tree) { out = append(out, n.Text) })
	return out
}

// Binds whose names a definition does not have, their order, and how often they are there do not matter.
func TestBindsThatAreNotUsedDoNotMatter(t *testing.T) {
	d := &dice{83}
	for range 4000 {
		in, b := d.generated(), d.binds()
		got := resolve.Resolve(in, b)
		texts := textsOf(in)
		same := func(what string, l []api.Bind) {
			other := resolve.Resolve(in, l)
			if !shape.Same(other.Tree, got.Tree) || !slices.Equal(other.Diags, got.Diags) {
				t.Fatalf("%s with %q, %s: %s, with %s", show(in), b, what, show(other.Tree), showDiags(other.Diags))
			}
		}
		var used []api.Bind
		for _, x := range b {
			if slices.Contains(texts, x.Name) {
				used = append(used, x)
			}
		}
		same("without those that are not used", used)
		more := slices.Clone(b)
		for _, name := range []string{"unused", "x@1", "$T", "x ", "X", "selF"} {
			if !slices.Contains(texts, name) {
				more = slices.Insert(more, d.roll(len(more)+1), api.Bind{Name: name, Def: d.pick("p::x", "x", "r::r")})
			}
		}
		same("and more", more)
		slices.Reverse(more)
		same("in another order", append(more, b...))
	}
}

// bindersOf returns the indices of the binders in a result.
func bindersOf(l []node) []int {
	var out []int
	for i, n := range l {
		if n.kind == api.KLet || isArgOfFn(l, i) {
			out = append(out, i)
		}
	}
	return out
}

// isRead reports whether a variable is read or assigned.
func isRead(l []node, variable string) bool {
	return slices.ContainsFunc(l, func(n node) bool { return (n.kind == api.KLocal || n.kind == api.KAssign) && n.text == variable })
}

// A variable that is not used can have another name; nothing else changes.
func TestNamesOfVariablesThatAreNotUsedDoNotMatter(t *testing.T) {
	d := &dice{84}
	renamed := 0
	for range 4000 {
		in, b := withoutMacros(shape.Number(d.generated())), append(d.binds(), binds("new=p::x,int=p::int")...)
		got := resolve.Resolve(in, b)
		l := flat(got.Tree, 0, -1)
		for number, i := range bindersOf(l) {
			if isRead(l, l[i].text) {
				continue
			}
			other := shape.Number(in)
			eachNode(&other, func(n *api.Tree) {
				if n.At == l[i].at {
					n.Text = "unused"
				}
			})
			want := slices.Clone(l)
			want[i].text = "unused@" + strconv.Itoa(number)
			result := resolve.Resolve(other, b)
			if !slices.Equal(flat(result.Tree, 0, -1), want) || !slices.Equal(result.Diags, got.Diags) {
				t.Fatalf("%s became %s, and with another name of %s %s", show(in), show(got.Tree), l[i].text, show(result.Tree))
			}
			renamed++
		}
	}
	if renamed < 4000 {
		t.Errorf("only %d variables got another name", renamed)
	}
}

// withoutMacros returns a tree whose KMacros, and nodes as they are only after name resolution, are of another kind.
func withoutMacros(in api.Tree) api.Tree {
	out := shape.Strip(in)
	eachNode(&out, func(n *api.Tree) {
		if n.Kind == api.KMacro || n.Kind == api.KLocal {
			n.Kind = api.KIf
		}
	})
	return shape.Number(out)
}

// No variable has two binders, and each one that is read or assigned has one.
func TestNoVariableHasTwoBinders(t *testing.T) {
	d := &dice{85}
	read := 0
	for range 8000 {
		in := withoutMacros(d.generated())
		if d.roll(2) == 0 {
			in = d.dense(5)
		}
		l := flat(resolve.Resolve(in, d.binds()).Tree, 0, -1)
		binders := map[string]int{}
		for _, i := range bindersOf(l) {
			binders[l[i].text]++
		}
		for v, n := range binders {
			if n != 1 {
				t.Fatalf("%s: %s has %d binders", show(in), v, n)
			}
		}
		for _, n := range l {
			if n.kind == api.KLocal || n.kind == api.KAssign {
				read++
				if binders[n.text] != 1 {
					t.Fatalf("%s: %s has no binder", show(in), n.text)
				}
			}
		}
	}
	if read < 4000 {
		t.Errorf("only %d variables are read", read)
	}
	in := fn(args("x", "x", "x@0", "x@1"), block(let("x"), let("x@0@2"), let("x@4"), let("x", block(let("x@7"), let("x")))), block(let("x"), let("@"), let("")))
	var texts []string
	l := flat(resolve.Resolve(in, nil).Tree, 0, -1)
	for _, i := range bindersOf(l) {
		texts = append(texts, l[i].text)
	}
	if got := strings.Join(texts, " "); got != "x@0 x@1 x@0@2 x@1@3 x@4 x@0@2@5 x@4@6 x@7 x@7@8 x@9 x@10 @@11 @12" {
		t.Errorf("binders with like names: %s", got)
	}
}

// After name resolution no name is left but those of traits.
func TestNoNameIsLeft(t *testing.T) {
	d := &dice{86}
	for range 4000 {
		in := withoutMacros(d.generated())
		l := flat(resolve.Resolve(in, d.binds()).Tree, 0, -1)
		for i, n := range l {
			up := kindOf(l, n.up)
			if n.kind == api.KExpand || n.kind == api.KName && up != api.KSupers && up != api.KParam && (up != api.KSig || end(l, i) != end(l, n.up)) {
				t.Fatalf("%s: %s is left", show(in), n.text)
			}
		}
	}
}
