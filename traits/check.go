package traits

import (
	"slices"

	"recompile/api"
	"recompile/signature"
	"recompile/types"
)

// Check returns what is wrong with the functions of an implementation for a type; l has the signatures of the methods of its trait.
func Check(t api.Tree, self api.Type, l []api.Known) []api.Diag {
	if t.Kind != api.KImpl {
		return nil
	}
	has := map[string]bool{}
	for _, k := range t.Kids {
		if k.Kind == api.KFn {
			has[k.Text] = true
		}
	}
	methods := map[string]api.Signature{}
	var diags []api.Diag
	for _, m := range l {
		if !has[m.Def] {
			diags = append(diags, api.Diag{Code: api.CodeImpl, Node: t.At, Text: m.Def})
		}
		if _, twice := methods[m.Def]; !twice {
			methods[m.Def] = m.Sig
		}
	}
	for _, k := range t.Kids {
		if k.Kind != api.KFn {
			continue
		}
		if m, ok := methods[k.Text]; !ok || !implements(k, m, self) {
			diags = append(diags, api.Diag{Code: api.CodeImpl, Node: k.At, Text: k.Text})
		}
	}
	return diags
}

// implements reports whether a function has the types of a method of a trait, for a type that has it.
func implements(fn api.Tree, method api.Signature, self api.Type) bool {
	is := func(a, b api.Type) bool {
		return types.Same(a, types.Put(b, []string{"Self"}, []api.Type{self}))
	}
	sig := signature.Of(fn.Text, fn)
	return is(sig.Result, method.Result) && slices.EqualFunc(sig.Args, method.Args, is)
}
