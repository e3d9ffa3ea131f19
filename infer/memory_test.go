package infer_test

import (
	"fmt"
	"slices"
	"sync"
	"testing"

	"recompile/api"
	"recompile/infer"
)

// roomy returns a list with an element behind it, which an append to the list would write over.
func roomy[T any](l []T, behind T) []T {
	return append(append(make([]T, 0, len(l)+4), l...), behind)[:len(l)]
}

// spoil writes over a list and all that it has room for.
func spoil[T any](l []T, over T) {
	l = l[:cap(l)]
	for i := range l {
		l[i] = over
	}
}

func roomyTree(t api.Tree) api.Tree {
	var kids []api.Tree
	for _, k := range t.Kids {
		kids = append(kids, roomyTree(k))
	}
	t.Kids = roomy(kids, api.Tree{Text: "behind"})
	return t
}

func roomyType(t api.Type) api.Type { return ty(t.Name, roomyTypes(t.Args)...) }

func roomyTypes(l []api.Type) []api.Type {
	var out []api.Type
	for _, t := range l {
		out = append(out, roomyType(t))
	}
	return roomy(out, ty("behind"))
}

func roomyKnown(l []api.Known) []api.Known {
	var out []api.Known
	for _, k := range l {
		k.Sig.Params, k.Sig.Names = roomy(k.Sig.Params, api.Param{Name: "behind"}), roomy(k.Sig.Names, "behind")
		k.Sig.Args, k.Sig.Result = roomyTypes(k.Sig.Args), roomyType(k.Sig.Result)
		out = append(out, k)
	}
	return roomy(out, api.Known{Def: "behind"})
}

// all returns a list with what it has room for.
func all[T any](l []T) []T { return l[:cap(l)] }

// showAll writes a tree and signatures with what their lists have room for.
func showAll(in api.Tree, l []api.Known) string {
	s := fmt.Sprint(in.Kind, in.Text, in.At)
	for _, k := range all(in.Kids) {
		s += showAll(k, nil)
	}
	for _, k := range all(l) {
		s += fmt.Sprint(k.Def, k.Sig.Kind, all(k.Sig.Params), all(k.Sig.Names), k.Sig.Trait, showAllTypes(k.Sig.Args), showAllTypes([]api.Type{k.Sig.Result}))
	}
	return s + ";"
}

func showAllTypes(l []api.Type) string {
	s := "<"
	for _, t := range all(l) {
		s += t.Name + showAllTypes(t.Args)
	}
	return s + ">"
}

func spoilTree(t api.Tree) {
	for _, k := range t.Kids {
		spoilTree(k)
	}
	spoil(t.Kids, api.Tree{Kind: api.KBad, Text: "spoilt", At: -7})
}

func spoilTypes(l []api.Type) {
	for _, t := range l {
		spoilTypes(t.Args)
	}
	spoil(l, ty("spoilt"))
}

func spoilKnown(l []api.Known) {
	for _, k := range l {
		spoilTypes(k.Sig.Args)
		spoilTypes(k.Sig.Result.Args)
		spoil(k.Sig.Params, api.Param{Name: "spoilt"})
		spoil(k.Sig.Names, "spoilt")
	}
	spoil(l, api.Known{Def: "spoilt"})
}

func spoilInferred(x api.Inferred) {
	spoilTree(x.Tree)
	spoil(x.Diags, api.Diag{Code: 99})
	for _, g := range x.Goals {
		spoilTypes(g.Type.Args)
	}
	spoil(x.Goals, api.Goal{Trait: "spoilt"})
	spoil(x.At, -7)
}

// input is what the functions are called with.
type input struct {
	tree  api.Tree
	known []api.Known
}

func inputs() []input {
	d := &dice{137}
	out := []input{{}, {tree: of("block(int 1)")}}
	for range 2500 {
		l := d.known()
		out = append(out, input{d.anyTree(l), l})
	}
	return out
}

func TestResultsShareNothing(t *testing.T) {
	for _, in := range inputs() {
		tree, l := roomyTree(in.tree), roomyKnown(in.known)
		before := showAll(tree, l)
		got, needs := infer.Body(tree, l), infer.Needs(tree)
		text, names := exactInferred(got), slices.Clone(needs)
		spoilInferred(infer.Body(tree, l))
		spoil(infer.Needs(tree), "spoilt")
		if showAll(tree, l) != before {
			t.Fatalf("%s: the arguments have changed", show(in.tree))
		}
		spoilTree(tree)
		spoilKnown(l)
		if exactInferred(got) != text || !slices.Equal(needs, names) || text != exactInferred(infer.Body(in.tree, in.known)) {
			t.Fatalf("%s: the results share memory with others, or with the arguments", show(in.tree))
		}
	}
}

// The parts of one result share nothing.
func TestThePartsOfAResultShareNothing(t *testing.T) {
	l := known("p::l const = p::L<p::L<int>>; p::f fn T:p::A T:p::B U:p::C | $T $U = $T")
	in := function("T:p::L", "x@0:p::L<$T>", "error", "block(call p::f(global p::l, global p::l), call p::f(local x@0, local x@0), call p::f(global p::l, call p::z))")
	got := infer.Body(in, l)
	want := "p::A p::L<p::L<int>>@10, p::B error@10, p::C p::L<p::L<int>>@10, p::A p::L<$p::L>@13, p::B error@13, p::C p::L<$p::L>@13, p::A p::L<p::L<int>>@16, p::B error@16, p::C error@16"
	if showGoals(got) != want {
		t.Fatalf("goals %s, expected %s", showGoals(got), want)
	}
	for i := range got.Goals {
		rest := fmt.Sprint(got.Goals[i+1:], show(got.Tree), got.Diags, got.At)
		spoilTypes(got.Goals[i].Type.Args)
		if fmt.Sprint(got.Goals[i+1:], show(got.Tree), got.Diags, got.At) != rest {
			t.Errorf("the goal %d shares memory with others", i)
		}
	}
	kids := got.Tree.Kids[3].Kids
	for i := range kids {
		rest := fmt.Sprint(kids[i+1:], got.Diags, got.At)
		spoilTree(kids[i])
		if fmt.Sprint(kids[i+1:], got.Diags, got.At) != rest {
			t.Errorf("the Kid %d shares memory with others", i)
		}
	}
}

// Trees and types whose lists are parts of others are taken like any others.
func TestListsThatShareMemory(t *testing.T) {
	kids := []api.Tree{of("call p::id(int 1)"), of("call p::id(call p::id(int 1))"), of("unit")}
	in := api.Tree{Kind: api.KConst, Kids: []api.Tree{of("type unit"), {Kind: api.KBlock, Kids: kids}}}
	in.Kids[1].Kids = []api.Tree{{Kind: api.KBlock, Kids: kids[:2]}, {Kind: api.KBlock, Kids: kids[1:]}}
	args := []api.Type{ty("$T"), ty("$T")}
	l := []api.Known{{Def: "p::id", Sig: api.Signature{Kind: api.SigFn, Params: []api.Param{{Name: "T"}}, Args: args[:1], Result: args[0]}}}
	got := infer.Body(in, l)
	want := "block(block(call p::id<int>(int 1), call p::id<int>(call p::id<int>(int 1))), block(call p::id<int>(call p::id<int>(int 1)), unit))"
	if show(got.Tree.Kids[1]) != want || show(in.Kids[1]) == want {
		t.Errorf("%s, expected %s", show(got.Tree.Kids[1]), want)
	}
}

// An empty list is like none.
func TestEmptyLists(t *testing.T) {
	var fill func(t api.Tree) api.Tree
	fill = func(t api.Tree) api.Tree {
		kids := []api.Tree{}
		for _, k := range t.Kids {
			kids = append(kids, fill(k))
		}
		t.Kids = kids
		return t
	}
	l := definitions()
	for i := range l {
		x := &l[i].Sig
		x.Params, x.Names, x.Args = append([]api.Param{}, x.Params...), append([]string{}, x.Names...), append([]api.Type{}, x.Args...)
		x.Result.Args = append([]api.Type{}, x.Result.Args...)
		for k := range x.Args {
			x.Args[k].Args = append([]api.Type{}, x.Args[k].Args...)
		}
	}
	for _, text := range []string{"call p::g", "new p::N", "dot a", "block", "call p::put(int 1, global p::l)", "dot head(global p::l)", "if", "unary -", "let x@0", "new p::P(int 1, bool true, call p::any)", "zero", "dot a(global p::r)"} {
		in := constant("unit", "block(do("+text+"), unit)")
		if got, want := infer.Body(fill(in), l), infer.Body(in, definitions()); exactInferred(got) != exactInferred(want) {
			t.Errorf("%s with empty lists: %s, not %s", text, exactInferred(got), exactInferred(want))
		}
		if !slices.Equal(infer.Needs(fill(in)), infer.Needs(in)) {
			t.Errorf("%s with empty lists needs %q", text, infer.Needs(fill(in)))
		}
	}
	if got := infer.Body(of("const k(type int, int 1)"), []api.Known{}); exactInferred(got) != exactInferred(infer.Body(of("const k(type int, int 1)"), nil)) {
		t.Errorf("no signatures: %s", exactInferred(got))
	}
}

// No state is kept: a call returns the same after others, and beside others.
func TestCallsDoNotDependOnOthers(t *testing.T) {
	l := inputs()
	var want []string
	for _, in := range l {
		want = append(want, exactInferred(infer.Body(in.tree, in.known))+fmt.Sprint(infer.Needs(in.tree)))
	}
	if len(slices.Compact(slices.Sorted(slices.Values(want)))) < 2000 {
		t.Errorf("many results are the same")
	}
	var wait sync.WaitGroup
	for w := range 4 {
		wait.Go(func() {
			for n := range l {
				i := (n*7 + w*31) % len(l)
				if got := exactInferred(infer.Body(l[i].tree, l[i].known)) + fmt.Sprint(infer.Needs(l[i].tree)); got != want[i] {
					t.Errorf("after other calls: %s", got)
					return
				}
			}
		})
	}
	wait.Wait()
}
