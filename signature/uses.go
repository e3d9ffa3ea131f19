package signature

import (
	"slices"
	"strings"

	"recompile/api"
)

// Needs returns the definitions that the types, bounds and traits in a definition name, ascending, each once.
func Needs(t api.Tree) []string {
	needed := map[string]bool{}
	eachNode(t, func(k api.Tree, at place) {
		if usedAs(k, at) != 0 {
			needed[k.Text] = true
		}
	})
	var defs []string
	for def := range needed {
		defs = append(defs, def)
	}
	slices.Sort(defs)
	return defs
}

// Check returns what is wrong with the types, bounds, traits, parameters and arguments in a definition; l has the signatures of what it needs.
func Check(t api.Tree, l []api.Known) []api.Diag {
	known := map[string]api.Signature{}
	for _, x := range l {
		if _, twice := known[x.Def]; !twice {
			known[x.Def] = x.Sig
		}
	}
	var diags []api.Diag
	eachNode(t, func(k api.Tree, at place) {
		if code := fault(k, at, known); code != 0 {
			diags = append(diags, api.Diag{Code: code, Node: k.At, Text: k.Text})
		}
	})
	return diags
}

// usedAs returns the Kind that a signature must have if a node names its definition as a type or a trait; 0 for other nodes.
func usedAs(t api.Tree, at place) int {
	if !strings.Contains(t.Text, "::") {
		return 0
	}
	switch {
	case t.Kind == api.KTypeOf:
		return api.SigRecord
	case t.Kind == api.KImpl, t.Kind == api.KName && (at.above == api.KParam || at.above == api.KSupers):
		return api.SigTrait
	}
	return 0
}

// fault returns the code of what is wrong with a node; 0 if nothing is.
func fault(t api.Tree, at place, known map[string]api.Signature) int {
	kind, sig := usedAs(t, at), known[t.Text]
	switch {
	case at.again && needsOwnName(t, at):
		return api.CodeDuplicate
	case kind == 0:
		return 0
	case kind != sig.Kind:
		return api.CodeKind
	case kind == api.SigRecord && len(sig.Params) != len(t.Kids):
		return api.CodeCount
	}
	return 0
}

// needsOwnName reports whether a node must not have the name of a Kid before it in the same node.
func needsOwnName(t api.Tree, at place) bool {
	return t.Kind == api.KParam || t.Kind == api.KArg && at.above == api.KArgs
}
