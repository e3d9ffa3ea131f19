package parser

import "recompile/api"

// params: "<" param {"," param} ">"; there may be none
func (r *reader) params() api.Tree {
	if !r.at("<") {
		return r.noParams()
	}
	at := r.take().At
	l := r.list(",", (*reader).param)
	r.need(">")
	return node(api.KParams, "", at, l...)
}

func (r *reader) noParams() api.Tree { return node(api.KParams, "", r.here()) }

// param: NAME [":" NAME]
func (r *reader) param() api.Tree {
	at := r.here()
	name := r.name()
	if !r.took(":") {
		return node(api.KParam, name, at)
	}
	return node(api.KParam, name, at, r.nameNode())
}

func (r *reader) nameNode() api.Tree {
	at := r.here()
	return node(api.KName, r.name(), at)
}

// args reads args, or nothing, between two marks, which do not belong to its node.
func (r *reader) args(begin, end string, part rule) api.Tree {
	r.need(begin)
	at := r.here()
	return node(api.KArgs, "", at, r.listUpTo(end, part)...)
}

// arg: NAME ":" type
func (r *reader) arg() api.Tree {
	at := r.here()
	name := r.name()
	r.need(":")
	return node(api.KArg, name, at, r.typeBelow())
}

// result reads ["->" type].
func (r *reader) result() api.Tree {
	if !r.took("->") {
		return node(api.KTypeOf, "unit", r.here())
	}
	return r.typeBelow()
}

// type: "int", "bool" or "unit"; NAME ["<" type {"," type} ">"]; within a sig also "Self"
func (r *reader) typeOf() api.Tree {
	at := r.here()
	if word := r.sign("int", "bool", "unit"); word != "" {
		return node(api.KTypeOf, word, at)
	}
	if r.self && r.took("Self") {
		return node(api.KTypeOf, "Self", at)
	}
	name := r.name()
	if !r.took("<") {
		return node(api.KTypeOf, name, at)
	}
	l := r.list(",", (*reader).typeBelow)
	r.need(">")
	return node(api.KTypeOf, name, at, l...)
}
