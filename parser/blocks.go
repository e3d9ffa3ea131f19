package parser

import "recompile/api"

// block: "{" {stmt} [expr] "}"
func (r *reader) block() api.Tree {
	at := r.here()
	r.need("{")
	var kids []api.Tree
	for !r.at("}") {
		kids = append(kids, r.stmtOrValue())
	}
	end := r.take().At
	if len(kids) == 0 || isStmt(kids[len(kids)-1]) {
		kids = append(kids, node(api.KUnit, "", end))
	}
	return node(api.KBlock, "", at, kids...)
}

func isStmt(t api.Tree) bool {
	switch t.Kind {
	case api.KLet, api.KAssign, api.KWhile, api.KPrint, api.KDo:
		return true
	}
	return false
}

// stmtOrValue reads a stmt, or the expr that is the value of a block.
func (r *reader) stmtOrValue() api.Tree {
	switch {
	case r.at("let"):
		return r.let()
	case r.at("while"):
		return r.while()
	case r.at("print"):
		return r.print()
	case r.token().Kind == api.TokName && r.tokens[r.next+1].Text == "=":
		return r.assign()
	}
	value := r.exprBelow()
	if r.at("}") {
		return value
	}
	r.need(";")
	return node(api.KDo, "", value.At, value)
}

// stmt: "let" NAME "=" expr ";"
func (r *reader) let() api.Tree {
	at := r.here()
	r.need("let")
	return r.store(api.KLet, at)
}

// stmt: NAME "=" expr ";"
func (r *reader) assign() api.Tree { return r.store(api.KAssign, r.here()) }

// store reads what both kinds of statements with a name have.
func (r *reader) store(kind, at int) api.Tree {
	name := r.name()
	r.need("=")
	value := r.exprBelow()
	r.need(";")
	return node(kind, name, at, value)
}

// stmt: "while" expr block
func (r *reader) while() api.Tree {
	at := r.here()
	r.need("while")
	return node(api.KWhile, "", at, r.exprBelow(), r.blockBelow())
}

// stmt: "print" expr ";"
func (r *reader) print() api.Tree {
	at := r.here()
	r.need("print")
	value := r.exprBelow()
	r.need(";")
	return node(api.KPrint, "", at, value)
}
