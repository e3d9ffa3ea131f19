package shape

import "recompile/api"

// writer writes the source of a node as short as it can be: with blanks, parentheses and types of results only where they are needed. A node with other nodes below it than the parser gives it is written somehow.
type writer struct{ text []byte }

// node writes a node of any kind.
func (w *writer) node(t api.Tree) {
	switch {
	case isItem(t.Kind):
		w.item(t)
	case isPart(t.Kind):
		w.part(t)
	case isStmt(t.Kind):
		w.stmt(t)
	default:
		w.expr(t)
	}
}

// put writes tokens, with a blank between two that would be read as one. Marks never are, where they follow each other in a source.
func (w *writer) put(tokens ...string) {
	for _, s := range tokens {
		if w.endsInRun() && beginsInRun(s) {
			w.text = append(w.text, ' ')
		}
		w.text = append(w.text, s...)
	}
}

func (w *writer) endsInRun() bool { return len(w.text) > 0 && inRun(w.text[len(w.text)-1]) }

func beginsInRun(s string) bool { return len(s) > 0 && inRun(s[0]) }

// inRun reports whether a byte is one of those of words, names and numbers.
func inRun(c byte) bool {
	return c >= 'A' && c <= 'Z' || c >= 'a' && c <= 'z' || c >= '0' && c <= '9' || c == '_'
}

// kid returns a node below t; the zero tree if there is none.
func kid(t api.Tree, k int) api.Tree {
	if k < len(t.Kids) {
		return t.Kids[k]
	}
	return api.Tree{}
}

// kid writes a node below t.
func (w *writer) kid(t api.Tree, k int) { w.node(kid(t, k)) }

// kidsFrom writes the nodes below t from one on.
func (w *writer) kidsFrom(t api.Tree, k int) {
	for ; k < len(t.Kids); k++ {
		w.kid(t, k)
	}
}

// list writes the nodes below t, with a sign between any two of them, and with marks around them.
func (w *writer) list(begin string, t api.Tree, sign, end string) {
	w.put(begin)
	for k := range t.Kids {
		if k > 0 {
			w.put(sign)
		}
		w.kid(t, k)
	}
	w.put(end)
}

// listIfAny writes a list of at least one node.
func (w *writer) listIfAny(begin string, t api.Tree, sign, end string) {
	if len(t.Kids) > 0 {
		w.list(begin, t, sign, end)
	}
}
