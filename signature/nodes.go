package signature

import (
	"strings"

	"recompile/api"
)

// kid returns the Kid of a node with a number; the zero tree if there is none.
func kid(t api.Tree, number int) api.Tree {
	if number < 0 || number >= len(t.Kids) {
		return api.Tree{}
	}
	return t.Kids[number]
}

// each returns what a function makes of each Kid that has a Kind.
func each[T any](t api.Tree, kind int, of func(api.Tree) T) []T {
	var out []T
	for _, k := range t.Kids {
		if k.Kind == kind {
			out = append(out, of(k))
		}
	}
	return out
}

func text(t api.Tree) string { return t.Text }

// nameText returns the Text of a KName; an empty one for other trees.
func nameText(t api.Tree) string {
	if t.Kind != api.KName {
		return ""
	}
	return t.Text
}

// place is where a node stands.
type place struct {
	above int  // the Kind of the node that it is a Kid of; 0 for the whole tree
	again bool // whether a Kid before it in the same node has the same name
}

// eachNode calls a function with each node of a tree, in their order.
func eachNode(t api.Tree, visit func(api.Tree, place)) {
	visit(t, place{})
	eachBelow(t, visit)
}

func eachBelow(t api.Tree, visit func(api.Tree, place)) {
	names := map[string]bool{}
	for _, k := range t.Kids {
		// What is behind the "@" is the number of a binder: no two variables have the same Text.
		name, _, _ := strings.Cut(k.Text, "@")
		visit(k, place{above: t.Kind, again: names[name]})
		names[name] = true
		eachBelow(k, visit)
	}
}
