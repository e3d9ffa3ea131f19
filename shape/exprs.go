package shape

import "recompile/api"

// The ranks of exprs: those of the rules by which the parser reads them, where a rule reads all exprs of greater ranks, too.
const (
	rankOr = iota
	rankAnd
	rankRel
	rankSum
	rankProd
	rankUnary
	rankPost
)

// rank returns the rank of an expr.
func rank(t api.Tree) int {
	switch t.Kind {
	case api.KBinary:
		return rankOf(t.Text)
	case api.KUnary:
		return rankUnary
	}
	return rankPost
}

// rankOf returns the rank of exprs with a sign between two operands.
func rankOf(sign string) int {
	switch sign {
	case "||":
		return rankOr
	case "&&":
		return rankAnd
	case "<", "==":
		return rankRel
	case "+", "-":
		return rankSum
	}
	return rankProd
}

func (w *writer) expr(t api.Tree) {
	switch t.Kind {
	case api.KInt, api.KBool, api.KName:
		w.put(t.Text)
	case api.KCall:
		w.put(t.Text)
		w.list("(", t, ",", ")")
	case api.KExpand:
		w.put(t.Text, "!")
		w.list("(", t, ",", ")")
	case api.KNew:
		w.put("new", t.Text)
		w.list("(", t, ",", ")")
	case api.KDot:
		w.operand(kid(t, 0), rankPost)
		w.put(".", t.Text)
	case api.KUnary:
		w.put(t.Text)
		w.operand(kid(t, 0), rankUnary)
	case api.KBinary:
		w.binary(t)
	case api.KIf:
		w.put("if")
		w.kid(t, 0)
		w.kid(t, 1)
		w.put("else")
		w.kid(t, 2)
	case api.KBlock:
		w.put("{")
		w.kidsFrom(t, 0)
		w.put("}")
	}
}

func (w *writer) binary(t api.Tree) {
	least := rank(t)
	left := least
	if least == rankRel {
		left++ // Of the signs < and == just one stands between sums.
	}
	w.operand(kid(t, 0), left)
	w.put(t.Text)
	w.operand(kid(t, 1), least+1)
}

// operand writes an expr where one of at least a rank is read.
func (w *writer) operand(t api.Tree, least int) {
	if rank(t) >= least {
		w.node(t)
		return
	}
	w.put("(")
	w.node(t)
	w.put(")")
}

func isStmt(kind int) bool {
	switch kind {
	case api.KLet, api.KAssign, api.KWhile, api.KPrint, api.KDo:
		return true
	}
	return false
}

func (w *writer) stmt(t api.Tree) {
	switch t.Kind {
	case api.KLet:
		w.put("let", t.Text, "=")
	case api.KAssign:
		w.put(t.Text, "=")
	case api.KPrint:
		w.put("print")
	case api.KWhile:
		w.put("while")
		w.kid(t, 0)
		w.kid(t, 1)
		return
	}
	w.kid(t, 0)
	w.put(";")
}
