package macros

import (
	"recompile/api"
	"recompile/shape"
	"strconv"
)

// body is the Body of a macro with what each expansion asks of it.
type body struct {
	tree      api.Tree
	variables map[string]bool
	args      map[string]int // the index of the argument that replaces a parameter
	nodes     int            // how many nodes no argument replaces
	uses      []int          // how often each argument comes, for all Params
}

// bodyOf returns the body of a macro.
func bodyOf(m api.Macro) body {
	b := body{tree: m.Body, variables: variables(m.Body), args: map[string]int{}, uses: make([]int, len(m.Params))}
	for i, p := range m.Params {
		if _, ok := b.args[p]; !ok && !b.variables[p] {
			b.args[p] = i
		}
	}
	var count func(api.Tree)
	count = func(t api.Tree) {
		if i, ok := b.argument(t); ok {
			b.uses[i]++
			return
		}
		b.nodes++
		for _, k := range t.Kids {
			count(k)
		}
	}
	count(m.Body)
	return b
}

// argument returns the index of the argument that replaces a node, and whether there is one.
func (b body) argument(t api.Tree) (int, bool) {
	if t.Kind != api.KName {
		return 0, false
	}
	i, ok := b.args[t.Text]
	return i, ok
}

// isVariable reports whether a node makes, changes or reads a variable of the macro.
func (b body) isVariable(t api.Tree) bool {
	switch t.Kind {
	case api.KLet, api.KAssign, api.KName:
		return b.variables[t.Text]
	}
	return false
}

// size returns how many nodes the body has with these arguments, without making it: it could be very large.
func (b body) size(args []api.Tree) int {
	size := b.nodes
	for i, t := range args {
		size += b.uses[i] * shape.Count(t)
	}
	return size
}

// expansion returns what a KExpand becomes by the expansion with a number.
func (b body) expansion(call api.Tree, number int) api.Tree {
	mark := "#" + strconv.Itoa(number)
	var node func(api.Tree) api.Tree
	node = func(t api.Tree) api.Tree {
		if i, ok := b.argument(t); ok {
			return call.Kids[i]
		}
		if b.isVariable(t) {
			t.Text += mark
		}
		t.At = call.At
		t.Kids = each(t.Kids, node)
		return t
	}
	return node(b.tree)
}
