package lower_test

import (
	"fmt"
	"slices"
	"sync"
	"testing"

	"recompile/api"
	"recompile/fact"
	"recompile/lower"
)

// roomy returns a list with an element behind it, which an append to the list would write over.
func roomy[T any](l []T, behind T) []T {
	return append(append(make([]T, 0, len(l)+4), l...), behind)[:len(l)]
}

// spoil writes over a list and all that it has room for.
func spoil[T any](l []T, over T) {
	l = l[:cap(l)]
	for i := range l {
		l[i] = over
	}
}

// all returns a list with what it has room for.
func all[T any](l []T) []T { return l[:cap(l)] }

// input is what the functions are called with.
type input struct {
	tree    api.Tree
	names   []string
	args    []api.Type
	targets []api.Equation
}

func (in input) body() api.Code { return lower.Body(in.tree, in.names, in.args, in.targets) }

func (in input) calls() []api.Type { return lower.Calls(in.tree, in.names, in.args) }

// results writes both results so that no two that differ look the same.
func (in input) results() string { return fact.Code(in.body()) + exactTypes(in.calls()) }

func roomyTree(t api.Tree) api.Tree {
	var kids []api.Tree
	for _, k := range t.Kids {
		kids = append(kids, roomyTree(k))
	}
	t.Kids = roomy(kids, api.Tree{Text: "behind"})
	return t
}

func roomyTypes(l []api.Type) []api.Type {
	var out []api.Type
	for _, t := range l {
		out = append(out, ty(t.Name, roomyTypes(t.Args)...))
	}
	return roomy(out, ty("behind"))
}

// inMemory returns the input in memory that nothing else has, with room behind each list.
func (in input) inMemory() input {
	out := input{tree: roomyTree(in.tree), names: roomy(in.names, "behind"), args: roomyTypes(in.args)}
	for _, e := range in.targets {
		out.targets = append(out.targets, api.Equation{A: roomyTypes([]api.Type{e.A})[0], B: roomyTypes([]api.Type{e.B})[0]})
	}
	out.targets = roomy(out.targets, api.Equation{A: ty("behind")})
	return out
}

func showAllTypes(l []api.Type) string {
	s := "<"
	for _, t := range all(l) {
		s += t.Name + showAllTypes(t.Args)
	}
	return s + ">"
}

func showAllTree(t api.Tree) string {
	s := fmt.Sprint(t.Kind, t.Text, t.At, "(")
	for _, k := range all(t.Kids) {
		s += showAllTree(k)
	}
	return s + ")"
}

// showAll writes an input with what its lists have room for.
func (in input) showAll() string {
	s := showAllTree(in.tree) + fmt.Sprint(all(in.names)) + showAllTypes(in.args)
	for _, e := range all(in.targets) {
		s += showAllTypes([]api.Type{e.A, e.B})
	}
	return s
}

func spoilTree(t api.Tree) {
	for _, k := range t.Kids {
		spoilTree(k)
	}
	spoil(t.Kids, api.Tree{Kind: api.KCall, Text: "spoilt", At: -7})
}

func spoilTypes(l []api.Type) {
	for _, t := range l {
		spoilTypes(t.Args)
	}
	spoil(l, ty("spoilt"))
}

func (in input) spoil() {
	spoilTree(in.tree)
	spoil(in.names, "spoilt")
	spoilTypes(in.args)
	for _, e := range in.targets {
		spoilTypes([]api.Type{e.A, e.B})
	}
	spoil(in.targets, api.Equation{A: ty("spoilt")})
}

func spoilCode(c api.Code) {
	for _, o := range c.Ops {
		spoil(o.List, -7)
	}
	spoil(c.Ops, api.Op{Kind: 99})
}

func inputs() []input {
	d := &dice{143}
	out := []input{{}, {tree: of("block(int 1)")}, {tree: withArgs(2, blockOf(api.MaxCode, of("call p::f(int 1)")))}}
	for range 2500 {
		in := input{d.anyTree(), d.names(), d.args(), d.targets()}
		if d.roll(2) == 0 {
			in.targets = same(in.calls())
		}
		out = append(out, in)
	}
	return out
}

func TestResultsShareNothing(t *testing.T) {
	for _, plain := range inputs() {
		in := plain.inMemory()
		before := in.showAll()
		code, calls := in.body(), in.calls()
		codeText, callsText := fact.Code(code), exactTypes(calls)
		spoilCode(in.body())
		spoilTypes(in.calls())
		if in.showAll() != before {
			t.Fatalf("%s: the arguments have changed", show(plain.tree))
		}
		in.spoil()
		if fact.Code(code) != codeText || exactTypes(calls) != callsText || codeText+callsText != plain.results() {
			t.Fatalf("%s: the results share memory with others, or with the arguments", show(plain.tree))
		}
	}
}

// The parts of one result share nothing.
func TestThePartsOfAResultShareNothing(t *testing.T) {
	in := input{tree: function("x@0", "call p::f(call p::f(local x@0, local x@0), new p::R(local x@0, call p::f<$T,$T>(local x@0)), call p::g<$T,p::L<$T>>)"), names: []string{"T"}, args: typesOf("p::L<p::L<int>>")}
	code := in.body()
	for i, o := range code.Ops {
		rest := fmt.Sprint(code.Ops[i+1:])
		spoil(o.List, -7)
		if fmt.Sprint(code.Ops[i+1:]) != rest {
			t.Errorf("the list of the operation %d shares memory with others", i)
		}
	}
	calls := in.calls()
	if exactTypes(calls) != exactTypes(typesOf("p::f p::f<p::L<p::L<int>>,p::L<p::L<int>>> p::g<p::L<p::L<int>>,p::L<p::L<p::L<int>>>>")) {
		t.Fatalf("the calls are %s", exactTypes(calls))
	}
	for i := range calls {
		rest := exactTypes(calls[i+1:])
		for k := range calls[i].Args {
			others := exactTypes(calls[i].Args[k+1:])
			spoilTypes(calls[i].Args[k].Args)
			if exactTypes(calls[i].Args[k+1:]) != others {
				t.Errorf("the Args of the call %d share memory", i)
			}
		}
		if exactTypes(calls[i+1:]) != rest {
			t.Errorf("the call %d shares memory with others", i)
		}
	}
}

// Trees whose lists are parts of others are taken like any others.
func TestListsThatShareMemory(t *testing.T) {
	kids := []api.Tree{of("call p::f(int 1)"), of("let x@0(int 2)"), of("local x@0")}
	in := valueOf(api.Tree{Kind: api.KBlock, Kids: []api.Tree{{Kind: api.KBlock, Kids: kids[:2]}, {Kind: api.KBlock, Kids: kids[1:]}, {Kind: api.KCall, Text: "p::f", Kids: kids}}})
	checkBody(t, in, "0/13: r0 = 1, r1 = call p::f(r0), r2 = 2, r3 = r2, r4 = 2, r5 = r4, r6 = r5, r7 = 1, r8 = call p::f(r7), r9 = 2, r10 = r9, r11 = r10, r12 = call p::f(r8 r0 r11), return r12")
}

// An empty list is like none.
func TestEmptyLists(t *testing.T) {
	var fill func(t api.Tree) api.Tree
	fill = func(t api.Tree) api.Tree {
		kids := []api.Tree{}
		for _, k := range t.Kids {
			kids = append(kids, fill(k))
		}
		t.Kids = kids
		return t
	}
	for _, in := range inputs() {
		full := in
		full.tree = fill(in.tree)
		if len(in.names) == 0 {
			full.names = []string{}
		}
		if len(in.args) == 0 {
			full.args = []api.Type{}
		}
		if len(in.targets) == 0 {
			full.targets = []api.Equation{}
		}
		for i := range full.args {
			full.args[i].Args = append([]api.Type{}, full.args[i].Args...)
		}
		for i := range full.targets {
			full.targets[i].A.Args = append([]api.Type{}, full.targets[i].A.Args...)
		}
		if full.results() != in.results() {
			t.Fatalf("%s with empty lists: %s", show(in.tree), showCode(full.body()))
		}
	}
}

// Places do not matter.
func TestPlaces(t *testing.T) {
	d := &dice{144}
	for _, in := range inputs() {
		other := in
		other.tree = copied(in.tree)
		change(&other.tree, func(n *api.Tree) { n.At = d.roll(1000) - 500 })
		if other.results() != in.results() {
			t.Fatalf("%s with other places: %s", show(in.tree), showCode(other.body()))
		}
	}
}

// No state is kept: a call returns the same after others, and beside others.
func TestCallsDoNotDependOnOthers(t *testing.T) {
	l := inputs()
	var want []string
	for _, in := range l {
		want = append(want, in.results())
	}
	if len(slices.Compact(slices.Sorted(slices.Values(want)))) < 1500 {
		t.Errorf("many results are the same")
	}
	var wait sync.WaitGroup
	for w := range 4 {
		wait.Go(func() {
			for n := range l {
				i := (n*7 + w*31) % len(l)
				if l[i].results() != want[i] {
					t.Errorf("after other calls: %s", showCode(l[i].body()))
					return
				}
			}
		})
	}
	wait.Wait()
}
