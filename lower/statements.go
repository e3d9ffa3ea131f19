package lower

import "recompile/api"

// statement appends the operations of a node without a value.
func (w *writer) statement(t api.Tree) {
	switch t.Kind {
	case api.KLet:
		b := w.kid(t, 0)
		w.variables[t.Text] = w.result(api.Op{Kind: api.OpCopy, B: b})
	case api.KAssign:
		w.assign(t)
	case api.KWhile:
		w.loop(t)
	case api.KPrint:
		w.add(api.Op{Kind: api.OpPrint, B: w.kid(t, 0)})
	case api.KDo:
		w.kid(t, 0)
	}
}

func (w *writer) assign(t api.Tree) {
	b := w.kid(t, 0)
	if r, ok := w.variables[t.Text]; ok {
		w.copyTo(r, b)
	}
}

func (w *writer) loop(t api.Tree) {
	begin := w.here()
	end := w.jumpFrom(api.OpZero, w.kid(t, 0))
	w.kid(t, 1)
	w.add(api.Op{Kind: api.OpJump, C: begin})
	end()
}
