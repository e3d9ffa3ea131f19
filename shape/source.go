package shape

import (
	"recompile/api"
	"recompile/parser"
)

// Source returns the shortest text that the parser reads as a tree, but for its Ats; an empty text if there is none.
func Source(t api.Tree) string {
	w := &writer{}
	w.node(t)
	text := string(w.text)
	// Something is written of every tree: it may be too long, too deep, or no source of this tree.
	if read, ok := parsed(text, t.Kind); ok && Same(Strip(read), Strip(t)) {
		return text
	}
	return ""
}

// parsed returns what a text is read as, where a node of a kind is expected, and whether it is read.
func parsed(text string, kind int) (api.Tree, bool) {
	switch {
	case isItem(kind):
		return parsedItem(text)
	case kind == api.KTypeOf:
		return parser.Type(text)
	default:
		return parser.Expr(text)
	}
}

func parsedItem(text string) (api.Tree, bool) {
	items, errors := parser.Module(text)
	if len(items) != 1 || len(errors) > 0 {
		return api.Tree{}, false
	}
	return items[0], true
}
