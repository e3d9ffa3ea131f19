package signature_test

import (
	"slices"
	"strconv"
	"testing"

	"recompile/api"
	"recompile/signature"
)

const levels = 1 << 16

// deep returns a tree with many levels of a node around another one.
func deep(kind int, text string, bottom api.Tree) api.Tree {
	for range levels - 1 {
		bottom = tree(kind, text, 1, bottom)
	}
	return bottom
}

func TestDeepTypes(t *testing.T) {
	in := deep(api.KTypeOf, "p::L", of("type p::R"))
	got := signature.Of("p::c", tree(api.KConst, "c", 0, in))
	depth, x := 1, got.Result
	for len(x.Args) == 1 && x.Name == "p::L" {
		depth, x = depth+1, x.Args[0]
	}
	if depth != levels || x.Name != "p::R" || len(x.Args) != 0 {
		t.Errorf("%d levels, and then %s", depth, x.Name)
	}
	if needs := signature.Needs(in); !slices.Equal(needs, []string{"p::L", "p::R"}) {
		t.Errorf("%q is needed", needs)
	}
	if diags := signature.Check(in, known("p::L record 1")); showDiags(diags) != "7@0 p::R" {
		t.Errorf("%d diagnostics", len(diags))
	}
	if diags := signature.Check(in, known("p::R record")); len(diags) != levels-1 || diags[levels-2] != (api.Diag{Code: api.CodeKind, Node: 1, Text: "p::L"}) {
		t.Errorf("%d diagnostics", len(diags))
	}
}

func TestDeepTrees(t *testing.T) {
	for kind := range 45 {
		in := deep(kind, "x", of("param T(name p::S)"))
		diags := signature.Check(in, nil)
		if got := signature.Needs(in); !slices.Equal(got, []string{"p::S"}) || showDiags(diags) != "7@1 p::S" {
			t.Errorf("the kind %d: %q, %s", kind, got, showDiags(diags))
		}
		signature.Of("p::d", in)
		signature.Type(in)
	}
}

// Definitions with as many nodes as they can have, and more, are gone through quickly.
func TestWideTrees(t *testing.T) {
	n := 10 * api.MaxNodes
	args, params, kinds, again := tree(api.KArgs, "", 0), tree(api.KParams, "", 0), tree(api.KTypeOf, "p::P", 0), tree(api.KArgs, "", 0)
	var l []api.Known
	for i := range n {
		number := strconv.Itoa(i)
		args.Kids = append(args.Kids, tree(api.KArg, "x"+number+"@"+number, i, tree(api.KTypeOf, "p::R"+number, i)))
		again.Kids = append(again.Kids, tree(api.KArg, "x@"+number, i))
		params.Kids = append(params.Kids, tree(api.KParam, "T"+number, i, tree(api.KName, "p::S"+number, i)))
		kinds.Kids = append(kinds.Kids, tree(api.KTypeOf, "$T"+number, i))
		l = append(l, api.Known{Def: "p::R" + number, Sig: api.Signature{Kind: api.SigRecord}}, api.Known{Def: "p::S" + number, Sig: api.Signature{Kind: api.SigTrait}})
	}
	l = append(l, api.Known{Def: "p::P", Sig: api.Signature{Kind: api.SigRecord, Params: make([]api.Param, n)}})
	in := tree(api.KFn, "f", 0, params, args, kinds)
	got := signature.Of("p::f", in)
	if len(got.Params) != n || len(got.Args) != n || len(got.Result.Args) != n || got.Params[n-1] != (api.Param{Name: "T" + strconv.Itoa(n-1), Bound: "p::S" + strconv.Itoa(n-1)}) || got.Args[n-1].Name != "p::R"+strconv.Itoa(n-1) {
		t.Errorf("%d Params, %d Args, %d types", len(got.Params), len(got.Args), len(got.Result.Args))
	}
	if needs := signature.Needs(in); len(needs) != 2*n+1 || !slices.IsSorted(needs) || needs[0] != "p::P" {
		t.Errorf("%d are needed", len(needs))
	}
	if diags := signature.Check(in, l); len(diags) != 0 {
		t.Errorf("%d diagnostics", len(diags))
	}
	if diags := signature.Check(in, nil); len(diags) != 2*n+1 {
		t.Errorf("%d diagnostics without signatures", len(diags))
	}
	if diags := signature.Check(again, nil); len(diags) != n-1 || diags[n-2] != (api.Diag{Code: api.CodeDuplicate, Node: n - 1, Text: "x@" + strconv.Itoa(n-1)}) {
		t.Errorf("%d duplicates", len(diags))
	}
}
