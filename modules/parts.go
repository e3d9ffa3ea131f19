package modules

import (
	"recompile/api"
	"slices"
	"strings"
)

// impl begins the names of implementations and of their functions, and no others.
const impl = "impl "

// part is a node that defines a name, with the item that it lies in, or is.
type part struct {
	name       string
	node, item api.Tree
}

// parts returns the nodes of items that define a name, in their order.
func parts(items []api.Tree) []part {
	var out []part
	for _, t := range items {
		switch t.Kind {
		case api.KConst, api.KFn, api.KType, api.KMacro:
			out = append(out, part{t.Text, t, t})
		case api.KTrait:
			out = append(out, part{t.Text, t, t})
			out = append(out, partsBelow(t, api.KSig, "")...)
		case api.KImpl:
			name := title(t)
			out = append(out, part{name, t, t})
			out = append(out, partsBelow(t, api.KFn, name+".")...)
		}
	}
	return out
}

// partsBelow returns the nodes of a kind in an item, whose names begin with a prefix.
func partsBelow(item api.Tree, kind int, prefix string) []part {
	var out []part
	for _, k := range item.Kids {
		if k.Kind == kind {
			out = append(out, part{prefix + k.Text, k, item})
		}
	}
	return out
}

// title returns the name of an implementation.
func title(item api.Tree) string {
	name := impl + item.Text + " for "
	if i := indexOf(item, api.KTypeOf); i >= 0 {
		name += written(item.Kids[i])
	}
	return name
}

// written returns a type as it is in names.
func written(t api.Tree) string {
	if len(t.Kids) == 0 {
		return t.Text
	}
	var args []string
	for _, k := range t.Kids {
		args = append(args, written(k))
	}
	return t.Text + "[" + strings.Join(args, ";") + "]"
}

// definition returns the definition of a part: one that lies in an item gets what it needs of this item.
func (p part) definition() api.Tree {
	t := copied(p.node)
	switch {
	case p.node.Kind == api.KSig:
		t.Kids = append(t.Kids, api.Tree{Kind: api.KName, Text: p.item.Text, At: t.At})
	case p.item.Kind == api.KImpl && p.node.Kind == api.KFn:
		own, above := indexOf(t, api.KParams), indexOf(p.item, api.KParams)
		if own >= 0 && above >= 0 {
			t.Kids[own] = copied(p.item.Kids[above])
		}
	}
	return t
}

// indexOf returns the index of the first Kid of a kind, -1 if there is none.
func indexOf(t api.Tree, kind int) int {
	return slices.IndexFunc(t.Kids, func(k api.Tree) bool { return k.Kind == kind })
}

// copied returns a tree that shares no memory with t.
func copied(t api.Tree) api.Tree {
	t.Kids = slices.Clone(t.Kids)
	for i, k := range t.Kids {
		t.Kids[i] = copied(k)
	}
	return t
}
