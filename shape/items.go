package shape

import "recompile/api"

func isItem(kind int) bool {
	switch kind {
	case api.KUse, api.KPubUse, api.KConst, api.KFn, api.KType, api.KTrait, api.KImpl, api.KMacro:
		return true
	}
	return false
}

func (w *writer) item(t api.Tree) {
	switch t.Kind {
	case api.KUse:
		w.put("use", t.Text, ";")
	case api.KPubUse:
		w.put("pub", "use", t.Text, ";")
	case api.KConst:
		w.put("const", t.Text, ":")
		w.kid(t, 0)
		w.put("=")
		w.kid(t, 1)
		w.put(";")
	case api.KFn:
		w.put("fn", t.Text)
		w.kid(t, 0)
		w.list("(", kid(t, 1), ",", ")")
		w.result(kid(t, 2))
		w.kid(t, 3)
	case api.KType:
		w.put("type", t.Text)
		w.kid(t, 0)
		w.list("{", kid(t, 1), ",", "}")
	case api.KTrait:
		w.put("trait", t.Text)
		w.kid(t, 0)
		w.put("{")
		w.kidsFrom(t, 1)
		w.put("}")
	case api.KImpl:
		w.put("impl")
		w.kid(t, 0)
		w.put(t.Text, "for")
		w.kid(t, 1)
		w.put("{")
		w.kidsFrom(t, 2)
		w.put("}")
	case api.KMacro:
		w.put("macro", t.Text)
		w.list("(", kid(t, 0), ",", ")")
		w.put("=")
		w.kid(t, 1)
		w.put(";")
	}
}

// isPart reports whether a kind is one of nodes of items that are neither exprs nor statements.
func isPart(kind int) bool {
	switch kind {
	case api.KSig, api.KParams, api.KParam, api.KArg, api.KSupers, api.KTypeOf:
		return true
	}
	return false
}

func (w *writer) part(t api.Tree) {
	switch t.Kind {
	case api.KSig:
		w.put("fn", t.Text)
		w.list("(", kid(t, 0), ",", ")")
		w.result(kid(t, 1))
		w.put(";")
	case api.KParams, api.KTypeOf:
		w.put(t.Text)
		w.listIfAny("<", t, ",", ">")
	case api.KParam, api.KSupers:
		w.put(t.Text)
		w.listIfAny(":", t, "+", "")
	case api.KArg:
		w.put(t.Text, ":")
		w.kid(t, 0)
	}
}

// result writes the type of what a function returns.
func (w *writer) result(t api.Tree) {
	if t.Text == "unit" {
		return // It is what the parser takes a missing type for.
	}
	w.put("->")
	w.node(t)
}
