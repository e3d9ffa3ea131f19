package macros

import (
	"recompile/api"
	"recompile/modules"
	"recompile/shape"
	"strings"
)

// expanding is a tree whose KExpands are being done.
type expanding struct {
	binds   []api.Bind
	bodies  map[string]body
	nodes   int // of the whole tree, as it is now
	made    int // expansions
	diags   []api.Diag
	lacking map[string]bool // the definitions of macros that are not there
}

// begin returns what is known before the first KExpand of a tree is done.
func begin(t api.Tree, binds []api.Bind, l []api.Macro) *expanding {
	x := &expanding{binds: binds, bodies: map[string]body{}, nodes: shape.Count(t), lacking: map[string]bool{}}
	for _, m := range l {
		if _, ok := x.bodies[m.Def]; !ok {
			x.bodies[m.Def] = bodyOf(m)
		}
	}
	return x
}

// tree returns a part of the tree without KExpands. What a KExpand becomes can be, or have, further ones: these are the next ones.
func (x *expanding) tree(t api.Tree) api.Tree {
	for t.Kind == api.KExpand {
		t = x.done(t)
	}
	t.Kids = each(t.Kids, x.tree)
	return t
}

// done returns what a KExpand becomes.
func (x *expanding) done(call api.Tree) api.Tree {
	around := x.nodes - shape.Count(call)
	b, code := x.bodyFor(call, around)
	if code != 0 {
		x.nodes = around + 1
		x.diags = append(x.diags, api.Diag{Code: code, Node: call.At, Text: call.Text})
		return api.Tree{Kind: api.KBad, Text: call.Text, At: call.At}
	}
	x.nodes = around + b.size(call.Kids)
	x.made++
	return b.expansion(call, x.made)
}

// bodyFor returns the body that replaces a KExpand with some nodes around it, or the code of what is wrong.
func (x *expanding) bodyFor(call api.Tree, around int) (body, int) {
	def, code := x.meaning(call.Text)
	if code != 0 {
		return body{}, code
	}
	b, ok := x.bodies[def]
	if !ok {
		x.lacking[def] = true
		return body{}, api.CodeKind
	}
	if len(call.Kids) != len(b.uses) || x.made == api.MaxExpand || around+b.size(call.Kids) > api.MaxNodes {
		return body{}, api.CodeMacro
	}
	return b, 0
}

// meaning returns the definition that the Text of a KExpand means, or the code of what is wrong.
func (x *expanding) meaning(text string) (string, int) {
	if strings.HasPrefix(text, colons) {
		return "", api.CodeUnresolved
	}
	if strings.Contains(text, colons) {
		return text, 0
	}
	def, count := modules.Lookup(x.binds, text)
	switch count {
	case 0:
		return "", api.CodeUnresolved
	case 1:
		return def, 0
	}
	return "", api.CodeAmbiguous
}
