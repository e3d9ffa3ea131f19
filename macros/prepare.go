package macros

import (
	"recompile/api"
	"recompile/modules"
	"slices"
)

// colons stand between the module and the name of a definition; what begins with them means nothing in any module.
const colons = "::"

// isMacro reports whether a tree is a KMacro as the parser returns it.
func isMacro(t api.Tree) bool {
	return t.Kind == api.KMacro && len(t.Kids) == 2 && t.Kids[0].Kind == api.KArgs && !slices.ContainsFunc(t.Kids[0].Kids, isNoName)
}

func isNoName(t api.Tree) bool { return t.Kind != api.KName }

// variables returns the names of the variables of a body.
func variables(body api.Tree) map[string]bool {
	names := map[string]bool{}
	var look func(api.Tree)
	look = func(t api.Tree) {
		if t.Kind == api.KLet {
			names[t.Text] = true
		}
		for _, k := range t.Kids {
			look(k)
		}
	}
	look(body)
	return names
}

// prepared returns a body in which the names that are neither parameters nor variables mean the same in every module.
func prepared(body api.Tree, params []string, binds []api.Bind) api.Tree {
	own := variables(body)
	var node func(api.Tree) api.Tree
	node = func(t api.Tree) api.Tree {
		switch t.Kind {
		case api.KName:
			if !own[t.Text] && !slices.Contains(params, t.Text) {
				t.Text = definition(t.Text, binds)
			}
		case api.KCall, api.KNew, api.KExpand:
			t.Text = definition(t.Text, binds)
		case api.KAssign:
			if !own[t.Text] {
				t.Text = colons + t.Text
			}
		}
		t.Kids = each(t.Kids, node)
		return t
	}
	return node(body)
}

// definition returns the only definition that a name can mean, or what means nothing.
func definition(name string, binds []api.Bind) string {
	if def, count := modules.Lookup(binds, name); count == 1 {
		return def
	}
	return colons + name
}

// each returns a new list of what a function makes of nodes.
func each(l []api.Tree, change func(api.Tree) api.Tree) []api.Tree {
	out := slices.Clone(l)
	for i, t := range out {
		out[i] = change(t)
	}
	return out
}
