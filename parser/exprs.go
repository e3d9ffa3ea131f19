package parser

import "recompile/api"

// expr: and {"||" and}
func (r *reader) expr() api.Tree { return r.chain((*reader).and, "||") }

// and: rel {"&&" rel}
func (r *reader) and() api.Tree { return r.chain((*reader).rel, "&&") }

// rel: sum [("<" or "==") sum]
func (r *reader) rel() api.Tree {
	left := r.sum()
	if sign := r.sign("<", "=="); sign != "" {
		return binary(sign, left, r.sum())
	}
	return left
}

// sum: prod {("+" or "-") prod}
func (r *reader) sum() api.Tree { return r.chain((*reader).prod, "+", "-") }

// prod: unary {("*", "/" or "%") unary}
func (r *reader) prod() api.Tree { return r.chain((*reader).unary, "*", "/", "%") }

// chain reads operands with signs between them. It does not call itself for what follows a sign, since there may be any number of them.
func (r *reader) chain(operand rule, signs ...string) api.Tree {
	left := operand(r)
	for sign := r.sign(signs...); sign != ""; sign = r.sign(signs...) {
		left = binary(sign, left, operand(r))
	}
	return left
}

func binary(sign string, left, right api.Tree) api.Tree {
	return node(api.KBinary, sign, left.At, left, right)
}

// unary: ("-" or "!") unary; or post
func (r *reader) unary() api.Tree {
	at := r.here()
	if sign := r.sign("-", "!"); sign != "" {
		return node(api.KUnary, sign, at, r.below((*reader).unary))
	}
	return r.post()
}

// post: primary {"." NAME}
func (r *reader) post() api.Tree {
	t := r.primary()
	for r.took(".") {
		t = node(api.KDot, r.name(), t.At, t)
	}
	return t
}

func (r *reader) primary() api.Tree {
	t := r.token()
	switch t.Kind {
	case api.TokInt:
		r.take()
		return node(api.KInt, t.Text, t.At)
	case api.TokName:
		return r.named()
	}
	switch t.Text {
	case "true", "false":
		r.take()
		return node(api.KBool, t.Text, t.At)
	case "new":
		return r.construction()
	case "(":
		return r.parentheses()
	case "if":
		return r.choice()
	case "{":
		return r.block()
	}
	return r.fail()
}

// primary: NAME; NAME "(" [list] ")"; NAME "!" "(" [list] ")"
func (r *reader) named() api.Tree {
	at := r.here()
	name := r.name()
	switch {
	case r.at("("):
		return node(api.KCall, name, at, r.arguments()...)
	case r.took("!"):
		return node(api.KExpand, name, at, r.arguments()...)
	default:
		return node(api.KName, name, at)
	}
}

// primary: "new" NAME "(" [list] ")"
func (r *reader) construction() api.Tree {
	at := r.here()
	r.need("new")
	name := r.name()
	return node(api.KNew, name, at, r.arguments()...)
}

// arguments reads "(" [list] ")".
func (r *reader) arguments() []api.Tree {
	r.need("(")
	return r.listUpTo(")", (*reader).exprBelow)
}

// primary: "(" expr ")"
func (r *reader) parentheses() api.Tree {
	r.need("(")
	t := r.exprBelow()
	r.need(")")
	return t
}

// primary: "if" expr block "else" block
func (r *reader) choice() api.Tree {
	at := r.here()
	r.need("if")
	condition := r.exprBelow()
	yes := r.blockBelow()
	r.need("else")
	return node(api.KIf, "", at, condition, yes, r.blockBelow())
}
