package lower

import (
	"slices"

	"recompile/api"
	"recompile/types"
)

// errorName is the Name of a type that is none.
const errorName = "error"

// callTexts returns the Texts of the KCalls in an expression in the order of the nodes, each once.
func callTexts(t api.Tree) []string {
	var out []string
	seen := map[string]bool{}
	var visit func(api.Tree)
	visit = func(t api.Tree) {
		if t.Kind == api.KCall && !seen[t.Text] {
			seen[t.Text] = true
			out = append(out, t.Text)
		}
		for _, k := range t.Kids {
			visit(k)
		}
	}
	visit(t)
	return out
}

// instance returns the type in the Text of a KCall, and whether there is one.
func instance(text string, names []string, args []api.Type) (api.Type, bool) {
	t, ok := types.Parse(text)
	if !ok {
		return api.Type{}, false
	}
	return types.Put(t, names, args), true
}

// targetsOf returns a function that returns the symbol that a KCall with a Text calls. It keeps what it found, since a definition can call the same often.
func targetsOf(names []string, args []api.Type, targets []api.Equation) func(string) string {
	// Types that are not the same can have the same text.
	byText := map[string][]api.Equation{}
	for _, e := range targets {
		text := types.Print(e.A)
		byText[text] = append(byText[text], e)
	}
	found := map[string]string{}
	return func(text string) string {
		if symbol, ok := found[text]; ok {
			return symbol
		}
		if x, ok := instance(text, names, args); ok {
			found[text] = symbolOf(x, byText[types.Print(x)])
		}
		return found[text]
	}
}

// symbolOf returns the symbol that the first target for an instance has, or none.
func symbolOf(x api.Type, targets []api.Equation) string {
	i := slices.IndexFunc(targets, func(e api.Equation) bool { return types.Same(e.A, x) })
	if i < 0 || targets[i].B.Name == errorName {
		return ""
	}
	return types.Print(targets[i].B)
}
