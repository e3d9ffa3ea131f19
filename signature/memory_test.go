package signature_test

import (
	"slices"
	"strings"
	"sync"
	"testing"

	"recompile/api"
	"recompile/shape"
	"recompile/signature"
)

// roomy returns a list with an element behind it, which an append to the list would write over.
func roomy[T any](l []T, behind T) []T {
	return append(append(make([]T, 0, len(l)+4), l...), behind)[:len(l)]
}

// spoil writes over a list and all that it has room for.
func spoil[T any](l []T, over T) {
	l = l[:cap(l)]
	for i := range l {
		l[i] = over
	}
}

// roomyTree returns a tree whose kids have room behind them, with a node there.
func roomyTree(t api.Tree) api.Tree {
	var kids []api.Tree
	for _, k := range t.Kids {
		kids = append(kids, roomyTree(k))
	}
	t.Kids = roomy(kids, tree(api.KBad, "behind", 9))
	return t
}

// isBehind reports whether there is still the node behind the kids of all nodes.
func isBehind(t api.Tree) bool {
	behind := t.Kids[:len(t.Kids)+1][len(t.Kids)]
	return show(behind) == "bad behind" && !slices.ContainsFunc(t.Kids, func(k api.Tree) bool { return !isBehind(k) })
}

// spoilTree changes all that a tree has, and what its kids have room for.
func spoilTree(t api.Tree) {
	for _, k := range t.Kids {
		spoilTree(k)
	}
	spoil(t.Kids, tree(api.KBad, "spoilt", -7))
}

func spoilTypes(l []api.Type) {
	for _, t := range l {
		spoilTypes(t.Args)
	}
	spoil(l, api.Type{Name: "spoilt"})
}

func spoilSig(x api.Signature) {
	spoil(x.Params, api.Param{Name: "spoilt", Bound: "spoilt"})
	spoil(x.Names, "spoilt")
	spoilTypes(x.Args)
	spoilTypes(x.Result.Args)
}

// results are what all functions return for one tree.
type results struct {
	kind  api.Type
	sig   api.Signature
	needs []string
	diags []api.Diag
}

func call(t api.Tree, l []api.Known) results {
	return results{signature.Type(t), signature.Of("p::d", t), signature.Needs(t), signature.Check(t, l)}
}

func (r results) show() string {
	return exactType(r.kind) + exact(r.sig) + strings.Join(r.needs, " ") + showDiags(r.diags)
}

func (r results) spoil() {
	spoilTypes(r.kind.Args)
	spoilSig(r.sig)
	spoil(r.needs, "spoilt")
	spoil(r.diags, api.Diag{Code: 99, Text: "spoilt"})
}

// trees are definitions, types and others.
func trees() []api.Tree {
	out := []api.Tree{
		{}, of("type p::P(type p::L(type $T), type p::L(type $T), type p::L(type $T))"), of("const c(type p::P(type int, type p::L(type bool)), type p::L(type a))"),
		of("fn f(params(param T(name p::S), param T), args(arg x(type p::L(type $T)), arg x(type p::L(type $T))), type p::L(type $T), block)"),
		of("record d(params(param T, param U), args(arg a(type p::L(type $T)), arg a(type p::L(type $T))))"), of("trait d(supers(name a, name p::b), sig m, sig k, supers(name p::b))"),
		of("sig m(args(arg s(type $Self), arg t(type p::L(type $Self))), type p::L(type $Self), name p::S)"), of("impl p::S(params(param T, param U(name p::S)), type p::P(type $T, type $U), fn a, fn b, fn c)"),
	}
	d := &dice{114}
	for range 400 {
		out = append(out, d.definition(), d.tree(api.KTypeOf, 4))
	}
	return out
}

const someKnown = "p::R record 1,p::L record 1,p::P record 2,p::S trait,q::S fn,p::S record"

func TestResultsShareNothing(t *testing.T) {
	for _, in := range trees() {
		given, l := roomyTree(in), roomy(known(someKnown), api.Known{Def: "behind"})
		for i := range l {
			l[i].Sig.Names, l[i].Sig.Args = []string{"a"}, []api.Type{{Name: "p::L"}}
		}
		listed := func() string {
			var out []string
			for _, x := range l[:len(l)+1] {
				out = append(out, x.Def+" "+exact(x.Sig))
			}
			return strings.Join(out, ", ")
		}
		before := listed()
		check := func(after string) {
			t.Helper()
			if !shape.Same(given, in) || !isBehind(given) || listed() != before {
				t.Fatalf("%s: after %s the arguments are others", show(in), after)
			}
		}
		got := call(given, l)
		text := got.show()
		check("the calls")
		call(given, l).spoil()
		check("a change of the results")
		spoilTree(given)
		spoil(l, api.Known{Def: "p::L", Sig: api.Signature{Kind: api.SigMacro}})
		if got.show() != text {
			t.Fatalf("%s: the results share memory with others, or with the arguments", show(in))
		}
	}
}

// The lists of a signature share nothing, whatever room they have.
func TestThePartsOfASignatureShareNothing(t *testing.T) {
	for _, in := range trees() {
		want := exact(signature.Of("p::d", in))
		for part, spoilPart := range []func(*api.Signature){
			func(x *api.Signature) { spoil(x.Params, api.Param{Name: "spoilt"}); x.Params = nil },
			func(x *api.Signature) { spoil(x.Names, "spoilt"); x.Names = nil },
			func(x *api.Signature) { spoilTypes(x.Args); x.Args = nil },
			func(x *api.Signature) { spoilTypes(x.Result.Args); x.Result = api.Type{} },
		} {
			x, whole := signature.Of("p::d", in), signature.Of("p::d", in)
			spoilPart(&x)
			switch part {
			case 0:
				x.Params = whole.Params
			case 1:
				x.Names = whole.Names
			case 2:
				x.Args = whole.Args
			case 3:
				x.Result = whole.Result
			}
			if exact(x) != want {
				t.Fatalf("%s: the parts of the signature share memory: %s", show(in), exact(x))
			}
		}
		checkParts(t, signature.Of("p::d", in).Args)
		checkParts(t, signature.Type(in).Args)
	}
}

// checkParts tests that types of one list share nothing.
func checkParts(t *testing.T, l []api.Type) {
	t.Helper()
	for i, k := range l {
		behind := showTypes(l[i+1:])
		spoilTypes(k.Args)
		if showTypes(l[i+1:]) != behind {
			t.Fatalf("the types share memory: %s", showTypes(l))
		}
	}
}

// A tree whose lists of Kids are parts of one list is taken like any other.
func TestListsThatShareMemory(t *testing.T) {
	l := of("args(arg x(type p::L), arg y(type int), param x, param y)").Kids
	in := tree(api.KFn, "f", 0, tree(api.KParams, "", 0, l...), tree(api.KArgs, "", 0, l[:2]...), tree(api.KTypeOf, "p::P", 0, l[0].Kids[0], l[0].Kids[0]))
	if got := showSig(signature.Of("p::f", in)); got != "fn <x, y> (p::L, int) -> p::P<p::L, p::L>" {
		t.Errorf("%s", got)
	}
	in = tree(api.KArgs, "", 0, tree(api.KArgs, "", 0, l...), tree(api.KArgs, "", 0, l[:2]...), tree(api.KArgs, "", 0, l[1:]...))
	if got := showDiags(signature.Check(in, known("p::L record"))); got != "2@5 x, 2@6 y, 2@6 y" {
		t.Errorf("%s", got)
	}
}

// An empty list is like none.
func TestEmptyLists(t *testing.T) {
	for _, in := range trees() {
		other := copied(in)
		change(&other, func(n *api.Tree) {
			if len(n.Kids) == 0 {
				n.Kids = []api.Tree{}
			}
		})
		if call(other, []api.Known{}).show() != call(in, nil).show() {
			t.Fatalf("%s with empty lists", show(in))
		}
	}
}

// No state is kept: a call returns the same after others, and beside others.
func TestCallsDoNotDependOnOthers(t *testing.T) {
	l := trees()
	want := make([]string, len(l))
	for i, in := range l {
		want[i] = call(in, known(someKnown)).show()
	}
	var wait sync.WaitGroup
	for w := range 4 {
		wait.Go(func() {
			for n := range l {
				i := (n*7 + w*31) % len(l)
				call(l[n], nil)
				if got := call(l[i], known(someKnown)).show(); got != want[i] {
					t.Errorf("after other calls: %s", got)
					return
				}
			}
		})
	}
	wait.Wait()
}
