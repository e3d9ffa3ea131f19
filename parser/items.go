package parser

import "recompile/api"

// itemOf returns the rule of the items that begin with a word; nil if there are none.
func itemOf(word string) rule {
	switch word {
	case "use":
		return (*reader).use
	case "pub":
		return (*reader).pubUse
	case "const":
		return (*reader).constant
	case "fn":
		return (*reader).fn
	case "type":
		return (*reader).record
	case "trait":
		return (*reader).trait
	case "impl":
		return (*reader).impl
	case "macro":
		return (*reader).macro
	}
	return nil
}

func (r *reader) item() api.Tree {
	if part := itemOf(r.token().Text); part != nil {
		return part(r)
	}
	return r.fail()
}

// item: "use" NAME ";"
func (r *reader) use() api.Tree { return r.used(api.KUse, r.here()) }

// item: "pub" "use" NAME ";"
func (r *reader) pubUse() api.Tree {
	at := r.here()
	r.need("pub")
	return r.used(api.KPubUse, at)
}

// used reads what both kinds of uses have.
func (r *reader) used(kind, at int) api.Tree {
	r.need("use")
	name := r.name()
	r.need(";")
	return node(kind, name, at)
}

// item: "const" NAME ":" type "=" expr ";"
func (r *reader) constant() api.Tree {
	at := r.here()
	r.need("const")
	name := r.name()
	r.need(":")
	of := r.typeBelow()
	r.need("=")
	value := r.exprBelow()
	r.need(";")
	return node(api.KConst, name, at, of, value)
}

// item: "fn" NAME [params] "(" [args] ")" ["->" type] block
func (r *reader) fn() api.Tree { return r.function((*reader).params) }

// fun: a fn without params
func (r *reader) fun() api.Tree { return r.function((*reader).noParams) }

func (r *reader) function(params rule) api.Tree {
	at := r.here()
	r.need("fn")
	name := r.name()
	return node(api.KFn, name, at, params(r), r.args("(", ")", (*reader).arg), r.result(), r.blockBelow())
}

// item: "type" NAME [params] "{" [args] "}"
func (r *reader) record() api.Tree {
	at := r.here()
	r.need("type")
	name := r.name()
	return node(api.KType, name, at, r.params(), r.args("{", "}", (*reader).arg))
}

// item: "trait" NAME [":" NAME {"+" NAME}] "{" {sig} "}"
func (r *reader) trait() api.Tree {
	at := r.here()
	r.need("trait")
	name := r.name()
	kids := []api.Tree{r.supers()}
	r.self = true // Nothing of a trait but its sigs has types.
	r.need("{")
	kids = append(kids, r.allUpTo("}", (*reader).sig)...)
	return node(api.KTrait, name, at, kids...)
}

// supers reads [":" NAME {"+" NAME}].
func (r *reader) supers() api.Tree {
	if !r.took(":") {
		return node(api.KSupers, "", r.here())
	}
	at := r.here()
	return node(api.KSupers, "", at, r.list("+", (*reader).nameNode)...)
}

// sig: "fn" NAME "(" [args] ")" ["->" type] ";"
func (r *reader) sig() api.Tree {
	at := r.here()
	r.need("fn")
	name := r.name()
	args, result := r.args("(", ")", (*reader).arg), r.result()
	r.need(";")
	return node(api.KSig, name, at, args, result)
}

// item: "impl" [params] NAME "for" type "{" {fun} "}"
func (r *reader) impl() api.Tree {
	at := r.here()
	r.need("impl")
	params := r.params()
	name := r.name()
	r.need("for")
	kids := []api.Tree{params, r.typeBelow()}
	r.need("{")
	kids = append(kids, r.allUpTo("}", (*reader).fun)...)
	return node(api.KImpl, name, at, kids...)
}

// item: "macro" NAME "(" [NAME {"," NAME}] ")" "=" expr ";"
func (r *reader) macro() api.Tree {
	at := r.here()
	r.need("macro")
	name := r.name()
	args := r.args("(", ")", (*reader).nameNode)
	r.need("=")
	body := r.exprBelow()
	r.need(";")
	return node(api.KMacro, name, at, args, body)
}
