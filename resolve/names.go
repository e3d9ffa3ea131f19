package resolve

import (
	"recompile/api"
	"recompile/modules"
	"strings"
)

// colons stand between the module and the name of a definition; what begins with them means nothing in any module.
const colons = "::"

// found returns the definition that Lookup finds for a name, or the code of what is wrong.
func (r *resolver) found(name string) (string, int) {
	def, count := modules.Lookup(r.binds, name)
	switch count {
	case 0:
		return "", api.CodeUnresolved
	case 1:
		return def, 0
	}
	return "", api.CodeAmbiguous
}

// meaning returns the definition that a name means if it is no variable, or the code of what is wrong.
func (r *resolver) meaning(name string) (string, int) {
	if strings.HasPrefix(name, colons) {
		return "", api.CodeUnresolved
	}
	if strings.Contains(name, colons) {
		return name, 0
	}
	return r.found(name)
}

// report adds a diagnostic of a node.
func (r *resolver) report(t api.Tree, code int) {
	r.diags = append(r.diags, api.Diag{Code: code, Node: t.At, Text: t.Text})
}

// typeOf returns a KTypeOf with all below it. What is below one that is not found is not looked at.
func (r *resolver) typeOf(t api.Tree, s scope) api.Tree {
	switch {
	case len(t.Kids) == 0 && isBuiltIn(t.Text):
	case len(t.Kids) == 0 && r.isTypeParam(t.Text, s):
		t.Text = "$" + t.Text
	default:
		def, code := r.found(t.Text)
		if code != 0 {
			r.report(t, code)
			return api.Tree{Kind: api.KTypeOf, Text: "error", At: t.At}
		}
		t.Text = def
	}
	t.Kids = r.below(t, s)
	return t
}

func isBuiltIn(name string) bool { return name == "int" || name == "bool" || name == "unit" }

func (r *resolver) isTypeParam(name string, s scope) bool {
	return r.params[name] || s.inSig && name == "Self"
}

// trait returns a node that names a trait; if it is not found the node stays as it is.
func (r *resolver) trait(t api.Tree) api.Tree {
	def, code := r.found(t.Text)
	if code != 0 {
		r.report(t, code)
		return t
	}
	t.Text = def
	return t
}

// name returns what a KName becomes.
func (r *resolver) name(t api.Tree, s scope) api.Tree {
	if v, ok := r.known(t.Text, s); ok {
		t.Kind, t.Text = api.KLocal, v
		return t
	}
	return r.outer(t, api.KGlobal)
}

// outer returns what a node that names no variable becomes: one of this kind with the definition.
func (r *resolver) outer(t api.Tree, kind int) api.Tree {
	def, code := r.meaning(t.Text)
	if code != 0 {
		return r.bad(t, code)
	}
	t.Kind, t.Text = kind, def
	return t
}

// bad returns what a node becomes with which something is wrong.
func (r *resolver) bad(t api.Tree, code int) api.Tree {
	r.report(t, code)
	t.Kind = api.KBad
	return t
}

// assign returns what a KAssign becomes: without a variable its value is not used.
func (r *resolver) assign(t api.Tree, s scope) api.Tree {
	if v, ok := r.known(t.Text, s); ok {
		t.Text = v
		return t
	}
	r.report(t, api.CodeUnresolved)
	t.Kind, t.Text = api.KDo, ""
	return t
}
