package signature_test

import (
	"slices"
	"strconv"
	"strings"
	"testing"

	"recompile/api"
	"recompile/signature"
)

// This is a second reading of the chapter for trees as lists, in which Kids, duplicates and signatures are looked for from the beginning each time. The layer is compared with it.

// node is a node of a tree; those below it come behind it. Its parent is the node with the index up, -1 for the first one.
type node struct {
	kind     int
	text     string
	at, up   int
	position int // among the Kids of its parent
}

func flat(l []node, t api.Tree, up, position int) []node {
	self := len(l)
	l = append(l, node{t.Kind, t.Text, t.At, up, position})
	for i, k := range t.Kids {
		l = flat(l, k, self, i)
	}
	return l
}

// below returns the indices of the Kids of a node.
func below(l []node, up int) []int {
	var out []int
	for i := range l {
		if l[i].up == up && up >= 0 {
			out = append(out, i)
		}
	}
	return out
}

// nth returns the index of a Kid, -1 if there is none.
func nth(l []node, up, position int) int {
	for _, i := range below(l, up) {
		if l[i].position == position {
			return i
		}
	}
	return -1
}

// ofKind returns the indices of the Kids with a Kind.
func ofKind(l []node, up, kind int) []int {
	return slices.DeleteFunc(below(l, up), func(i int) bool { return l[i].kind != kind })
}

func readType(l []node, i int) api.Type {
	if i < 0 || l[i].kind != api.KTypeOf {
		return api.Type{Name: "error"}
	}
	out := api.Type{Name: l[i].text}
	for _, k := range below(l, i) {
		out.Args = append(out.Args, readType(l, k))
	}
	return out
}

// nameAt returns the Text of a node that is a KName.
func nameAt(l []node, i int) string {
	if i >= 0 && l[i].kind == api.KName {
		return l[i].text
	}
	return ""
}

// readOf reads the fields of a signature one after the other, each for all kinds.
func readOf(def string, l []node) api.Signature {
	at := slices.Index([]int{api.KConst, api.KFn, api.KType, api.KTrait, api.KSig, api.KMacro, api.KImpl}, l[0].kind)
	if at < 0 {
		return api.Signature{}
	}
	out := api.Signature{Kind: at + 1}
	if out.Kind == api.SigFn || out.Kind == api.SigRecord || out.Kind == api.SigImpl {
		for _, k := range ofKind(l, nth(l, 0, 0), api.KParam) {
			out.Params = append(out.Params, api.Param{Name: l[k].text, Bound: nameAt(l, nth(l, k, 0))})
		}
	}
	last := nameAt(l, nth(l, 0, len(below(l, 0))-1))
	if out.Kind == api.SigMethod {
		out.Params, out.Trait = []api.Param{{Name: "Self", Bound: last}}, last
	}
	args := map[int]int{api.SigFn: 1, api.SigRecord: 1, api.SigMethod: 0}
	if position, ok := args[out.Kind]; ok {
		for _, k := range ofKind(l, nth(l, 0, position), api.KArg) {
			out.Args = append(out.Args, readType(l, nth(l, k, 0)))
			if out.Kind == api.SigRecord {
				out.Names = append(out.Names, l[k].text)
			}
		}
	}
	results := map[int]int{api.SigConst: 0, api.SigFn: 2, api.SigMethod: 1}
	if position, ok := results[out.Kind]; ok {
		out.Result = readType(l, nth(l, 0, position))
	}
	switch out.Kind {
	case api.SigRecord:
		out.Result.Name = def
		for _, p := range out.Params {
			out.Result.Args = append(out.Result.Args, api.Type{Name: "$" + p.Name})
		}
	case api.SigTrait:
		for _, k := range ofKind(l, 0, api.KSig) {
			out.Names = append(out.Names, l[k].text)
		}
		for k := range l {
			if l[k].kind == api.KName && l[k].up > 0 && l[l[k].up].kind == api.KSupers && l[l[k].up].up == 0 {
				out.Names = append(out.Names, ":"+l[k].text)
			}
		}
	case api.SigImpl:
		for _, k := range ofKind(l, 0, api.KFn) {
			out.Names = append(out.Names, l[k].text)
		}
		out.Args, out.Trait = []api.Type{readType(l, nth(l, 0, 1))}, l[0].text
	}
	return out
}

// use says what a node names: 'r' for a record, 't' for a trait, ' ' for nothing that counts.
func use(l []node, i int) byte {
	if strings.Index(l[i].text, "::") < 0 {
		return ' '
	}
	above := -1000
	if l[i].up >= 0 {
		above = l[l[i].up].kind
	}
	switch l[i].kind {
	case api.KTypeOf:
		return 'r'
	case api.KImpl:
		return 't'
	case api.KName:
		if above == api.KSupers || above == api.KParam {
			return 't'
		}
	}
	return ' '
}

func readNeeds(l []node) []string {
	var out []string
	for i := range l {
		if at, found := slices.BinarySearch(out, l[i].text); !found && use(l, i) != ' ' {
			out = slices.Insert(out, at, l[i].text)
		}
	}
	return out
}

// same reports whether two Texts are the same up to the first "@".
func same(a, b string) bool {
	for i := 0; ; i++ {
		endA, endB := i == len(a) || a[i] == '@', i == len(b) || b[i] == '@'
		if endA || endB {
			return endA && endB
		}
		if a[i] != b[i] {
			return false
		}
	}
}

// duplicate reports whether a node is one that has the name of a Kid before it.
func duplicate(l []node, i int) bool {
	if up := l[i].up; up < 0 || l[i].kind != api.KParam && (l[i].kind != api.KArg || l[up].kind != api.KArgs) {
		return false
	}
	for k := range i {
		if l[k].up == l[i].up && same(l[k].text, l[i].text) {
			return true
		}
	}
	return false
}

func readCheck(l []node, known []api.Known) []api.Diag {
	var out []api.Diag
	for i := range l {
		sig := api.Signature{}
		if k := slices.IndexFunc(known, func(x api.Known) bool { return x.Def == l[i].text }); k >= 0 {
			sig = known[k].Sig
		}
		code, what := 0, use(l, i)
		switch {
		case what == 'r' && sig.Kind != api.SigRecord, what == 't' && sig.Kind != api.SigTrait:
			code = api.CodeKind
		case what == 'r' && len(below(l, i)) != len(sig.Params):
			code = api.CodeCount
		case duplicate(l, i):
			code = api.CodeDuplicate
		}
		if code != 0 {
			out = append(out, api.Diag{Code: code, Node: l[i].at, Text: l[i].text})
		}
	}
	return out
}

// compare compares the layer with the second reading, and returns the diagnostics.
func compare(t *testing.T, in api.Tree, l []api.Known) []api.Diag {
	t.Helper()
	nodes := flat(nil, in, -1, 0)
	if got, want := signature.Type(in), readType(nodes, 0); exactType(got) != exactType(want) {
		t.Fatalf("Type of %s: %s, not %s", show(in), exactType(got), exactType(want))
	}
	if got, want := signature.Of("p::d", in), readOf("p::d", nodes); exact(got) != exact(want) {
		t.Fatalf("Of %s: %s, not %s", show(in), exact(got), exact(want))
	}
	if got, want := signature.Needs(in), readNeeds(nodes); !slices.Equal(got, want) {
		t.Fatalf("Needs of %s: %q, not %q", show(in), got, want)
	}
	got, want := signature.Check(in, l), readCheck(nodes, l)
	if !slices.Equal(got, want) {
		t.Fatalf("Check of %s with %v: %s, not %s", show(in), l, showDiags(got), showDiags(want))
	}
	return got
}

// sized returns the trees with n nodes that have one of these Kinds and Texts.
func sized(n int, roots []api.Tree) []api.Tree {
	var out []api.Tree
	for _, kids := range forests(n-1, roots) {
		for _, r := range roots {
			out = append(out, tree(r.Kind, r.Text, n, kids...))
		}
	}
	return out
}

// forests returns the lists of trees with n nodes.
func forests(n int, roots []api.Tree) [][]api.Tree {
	if n == 0 {
		return [][]api.Tree{nil}
	}
	var out [][]api.Tree
	for size := 1; size <= n; size++ {
		for _, first := range sized(size, roots) {
			for _, rest := range forests(n-size, roots) {
				out = append(out, append([]api.Tree{first}, rest...))
			}
		}
	}
	return out
}

// compareAll compares all trees of these nodes with at most so many of them.
func compareAll(t *testing.T, most int, l []api.Known, nodes string) {
	t.Helper()
	roots := of("zero(" + nodes + ")").Kids
	catalan := []int{1, 1, 2, 5, 14, 42}
	for n := 1; n <= most; n++ {
		trees := sized(n, roots)
		want := catalan[n-1]
		for range n {
			want *= len(roots)
		}
		if len(trees) != want {
			t.Fatalf("there are %d trees of %d nodes, not %d", len(trees), n, want)
		}
		for _, in := range trees {
			compare(t, in, l)
		}
	}
}

func TestAllSmallSignatures(t *testing.T) {
	compareAll(t, 4, nil, "fn f, record R, params, param T, args, arg x@0, type p::R, name p::S")
	compareAll(t, 4, nil, "const c, fn f, sig m, args, arg x, type int, name S, zero")
	compareAll(t, 4, nil, "trait d, supers, name a, sig m, type b, impl p::S, fn f, params, param T")
	compareAll(t, 5, nil, "sig m, args, arg x, name p::S, type int")
	compareAll(t, 5, nil, "trait d, supers, name a, sig m")
	compareAll(t, 5, nil, "impl p::S, params, param T, fn f, type int")
	compareAll(t, 6, nil, "type p::L, name x, type")
}

func TestAllSmallChecks(t *testing.T) {
	for _, l := range []string{"", "p::R record", "p::R trait,p::R record", "p::R record 1,p::S trait", "p::S record 2,p::S trait,p::R record 2"} {
		compareAll(t, 4, known(l), "type p::R, param p::S, name p::S, supers, impl p::S, name p::R, args")
		compareAll(t, 4, known(l), "args, arg x@0, arg x@1, param x, param T, params, name x, type p::R")
	}
	compareAll(t, 5, nil, "args, arg x@0, arg x, arg y, param x")
	compareAll(t, 6, nil, "args, arg x@0, arg x")
	compareAll(t, 6, nil, "params, param T, name T")
}

// All definitions whose Kids are lists of at most four of these.
func TestAllListsOfKids(t *testing.T) {
	kids := of("zero(params(param T(name p::S), arg z(type a)), args(arg x(type p::R), param U), type p::L(type int), name p::S, supers(name p::A, sig k), sig m, fn f, zero)").Kids
	lists := [][]api.Tree{nil}
	for i := 0; len(lists[i]) < 4; i++ {
		for _, k := range kids {
			lists = append(lists, append(slices.Clone(lists[i]), k))
		}
	}
	for _, list := range lists {
		for _, kind := range []int{api.KConst, api.KFn, api.KType, api.KTrait, api.KSig, api.KMacro, api.KImpl, api.KModule} {
			in := tree(kind, "p::q", 3, list...)
			if got, want := signature.Of("p::d", in), readOf("p::d", flat(nil, in, -1, 0)); exact(got) != exact(want) {
				t.Fatalf("Of %s: %s, not %s", show(in), exact(got), exact(want))
			}
		}
	}
}

func TestGeneratedTrees(t *testing.T) {
	d := &dice{11}
	seen := map[string]int{}
	for i := range 40000 {
		in := d.definition()
		if i%4 == 0 {
			in = d.tree(d.kind(0), 2+d.roll(4))
		}
		for _, x := range compare(t, in, d.known()) {
			seen["code "+strconv.Itoa(x.Code)]++
		}
		x := signature.Of("p::d", in)
		for what, yes := range map[string]bool{"params": len(x.Params) > 1, "names": len(x.Names) > 1, "args": len(x.Args) > 1, "result": len(x.Result.Args) > 0, "trait": x.Trait != ""} {
			if yes {
				seen[what]++
			}
		}
		seen["kind "+strconv.Itoa(x.Kind)]++
	}
	for _, what := range []string{"code 2", "code 7", "code 8", "kind 0", "kind 1", "kind 2", "kind 3", "kind 4", "kind 5", "kind 6", "kind 7", "params", "names", "args", "result", "trait"} {
		if seen[what] < 1000 {
			t.Errorf("of %s there are only %d", what, seen[what])
		}
	}
}
