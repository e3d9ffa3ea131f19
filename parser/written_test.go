package parser_test

import (
	"slices"
	"strings"

	"recompile/api"
)

// written is a text that is written together with its trees, by the rules of the chapter.
type written struct {
	*dice
	text  []byte
	level int
	self  bool
}

// token writes a token with a gap before it, and returns its place.
func (w *written) token(s string) int {
	gap := w.pick("", " ", "  ", "\n", "\t// + 1;\n", " //\r\n")
	if gap == "" && len(w.text) > 0 && !alone(w.text[len(w.text)-1]) && !alone(s[0]) {
		gap = " "
	}
	w.text = append(w.text, gap...)
	at := len(w.text)
	w.text = append(w.text, s...)
	return at
}

// alone reports whether a byte is a token wherever it stands.
func alone(c byte) bool { return strings.IndexByte("(){},;:.", c) >= 0 }

// tokens writes tokens, and returns the place of the first one.
func (w *written) tokens(l ...string) int {
	at := w.token(l[0])
	for _, s := range l[1:] {
		w.token(s)
	}
	return at
}

// later returns a node for which the place is that of the token that is written next. Its place is the end of the text, until fixed replaces it.
func (w *written) later(kind int, text string) api.Tree {
	return api.Tree{Kind: kind, Text: text, At: -1 - len(w.text)}
}

// fixed returns a tree in which the places that were not known are those of the next tokens.
func fixed(t api.Tree, tokens []api.Token) api.Tree {
	out := api.Tree{Kind: t.Kind, Text: t.Text, At: t.At}
	if t.At < 0 {
		k := slices.IndexFunc(tokens, func(x api.Token) bool { return x.At >= -1-t.At })
		out.At = tokens[k].At
	}
	for _, k := range t.Kids {
		out.Kids = append(out.Kids, fixed(k, tokens))
	}
	return out
}

func tree(kind int, text string, at int, kids ...api.Tree) api.Tree {
	return api.Tree{Kind: kind, Text: text, At: at, Kids: kids}
}

func (w *written) often() bool { return w.roll(3) == 0 }

func (w *written) name() string { return w.pick("a", "b7", "_", "Use", "x", "T") }

// list writes what a function writes, one time or more, with signs between.
func (w *written) list(sign string, one func() api.Tree) []api.Tree {
	out := []api.Tree{one()}
	for w.often() {
		w.token(sign)
		out = append(out, one())
	}
	return out
}

// perhaps writes a list, or nothing.
func (w *written) perhaps(one func() api.Tree) []api.Tree {
	if w.often() {
		return nil
	}
	return w.list(",", one)
}

func (w *written) item() api.Tree {
	name := w.name()
	switch w.roll(9) {
	case 0:
		return tree(api.KUse, name, w.tokens("use", name, ";"))
	case 1:
		return tree(api.KPubUse, name, w.tokens("pub", "use", name, ";"))
	case 2:
		at := w.tokens("const", name, ":")
		of := w.below(w.typeOf)
		w.token("=")
		value := w.below(w.expr)
		w.token(";")
		return tree(api.KConst, name, at, of, value)
	case 3:
		at := w.tokens("fn", name)
		return tree(api.KFn, name, at, w.params(), w.args("(", ")"), w.result(), w.below(w.block))
	case 4:
		at := w.tokens("type", name)
		return tree(api.KType, name, at, w.params(), w.args("{", "}"))
	case 5:
		return w.trait(name)
	case 6:
		at := w.token("impl")
		params := w.params()
		w.tokens(name, "for")
		kids := []api.Tree{params, w.below(w.typeOf)}
		w.token("{")
		for w.often() {
			kids = append(kids, w.fun())
		}
		w.token("}")
		return tree(api.KImpl, name, at, kids...)
	default:
		at := w.tokens("macro", name, "(")
		args := w.later(api.KArgs, "")
		args.Kids = w.perhaps(w.nameNode)
		w.tokens(")", "=")
		body := w.below(w.expr)
		w.token(";")
		return tree(api.KMacro, name, at, args, body)
	}
}

func (w *written) trait(name string) api.Tree {
	at := w.tokens("trait", name)
	supers := w.later(api.KSupers, "")
	if w.often() {
		w.token(":")
		supers.At = -1 - len(w.text)
		supers.Kids = w.list("+", w.nameNode)
	}
	kids := []api.Tree{supers}
	w.token("{")
	for w.often() {
		name := w.name()
		at := w.tokens("fn", name)
		w.self = true
		kids = append(kids, tree(api.KSig, name, at, w.args("(", ")"), w.result()))
		w.self = false
		w.token(";")
	}
	w.token("}")
	return tree(api.KTrait, name, at, kids...)
}

func (w *written) fun() api.Tree {
	name := w.name()
	at := w.tokens("fn", name)
	return tree(api.KFn, name, at, w.later(api.KParams, ""), w.args("(", ")"), w.result(), w.below(w.block))
}

func (w *written) nameNode() api.Tree {
	name := w.name()
	return tree(api.KName, name, w.token(name))
}

func (w *written) params() api.Tree {
	out := w.later(api.KParams, "")
	if w.often() {
		w.token("<")
		out.Kids = w.list(",", func() api.Tree {
			name := w.name()
			at := w.token(name)
			if w.often() {
				w.token(":")
				return tree(api.KParam, name, at, w.nameNode())
			}
			return tree(api.KParam, name, at)
		})
		w.token(">")
	}
	return out
}

func (w *written) args(begin, end string) api.Tree {
	w.token(begin)
	out := w.later(api.KArgs, "")
	out.Kids = w.perhaps(func() api.Tree {
		name := w.name()
		at := w.tokens(name, ":")
		return tree(api.KArg, name, at, w.below(w.typeOf))
	})
	w.token(end)
	return out
}

func (w *written) result() api.Tree {
	if w.often() {
		return w.later(api.KTypeOf, "unit")
	}
	w.token("->")
	return w.below(w.typeOf)
}

// below writes something of a level greater by one.
func (w *written) below(one func() api.Tree) api.Tree {
	w.level++
	out := one()
	w.level--
	return out
}

// deep reports whether nothing of greater levels should be written.
func (w *written) deep() bool { return w.level >= 5 }

func (w *written) typeOf() api.Tree {
	if w.self && w.often() {
		return tree(api.KTypeOf, "Self", w.token("Self"))
	}
	if w.often() {
		word := w.pick("int", "bool", "unit")
		return tree(api.KTypeOf, word, w.token(word))
	}
	name := w.name()
	out := tree(api.KTypeOf, name, w.token(name))
	if w.often() && !w.deep() {
		w.token("<")
		out.Kids = w.list(",", func() api.Tree { return w.below(w.typeOf) })
		w.token(">")
	}
	return out
}

// signs are those of the levels of exprs, from what binds least.
func signs() [][]string {
	return [][]string{{"||"}, {"&&"}, {"<", "=="}, {"+", "-"}, {"*", "/", "%"}}
}

func (w *written) expr() api.Tree { return w.binary(0) }

func (w *written) binary(k int) api.Tree {
	if k == len(signs()) {
		return w.unary()
	}
	left := w.binary(k + 1)
	for w.roll(8) == 0 {
		sign := w.pick(signs()[k]...)
		w.token(sign)
		left = tree(api.KBinary, sign, left.At, left, w.binary(k+1))
		if k == 2 {
			break
		}
	}
	return left
}

func (w *written) unary() api.Tree {
	if w.roll(8) == 0 && !w.deep() {
		sign := w.pick("-", "!")
		return tree(api.KUnary, sign, w.token(sign), w.below(w.unary))
	}
	out := w.primary()
	for w.roll(6) == 0 {
		name := w.name()
		w.tokens(".", name)
		out = tree(api.KDot, name, out.At, out)
	}
	return out
}

func (w *written) primary() api.Tree {
	most := 10
	if w.deep() {
		most = 4
	}
	name := w.name()
	switch w.roll(most) {
	case 0:
		digits := w.pick("0", "1", "42", "007", "999999999999999999")
		return tree(api.KInt, digits, w.token(digits))
	case 1:
		word := w.pick("true", "false")
		return tree(api.KBool, word, w.token(word))
	case 2, 3:
		return w.nameNode()
	case 4:
		return tree(api.KCall, name, w.token(name), w.arguments()...)
	case 5:
		return tree(api.KExpand, name, w.tokens(name, "!"), w.arguments()...)
	case 6:
		return tree(api.KNew, name, w.tokens("new", name), w.arguments()...)
	case 7:
		w.token("(")
		out := w.below(w.expr)
		w.token(")")
		return out
	case 8:
		at := w.token("if")
		condition, yes := w.below(w.expr), w.below(w.block)
		w.token("else")
		return tree(api.KIf, "", at, condition, yes, w.below(w.block))
	default:
		return w.block()
	}
}

func (w *written) arguments() []api.Tree {
	w.token("(")
	out := w.perhaps(func() api.Tree { return w.below(w.expr) })
	w.token(")")
	return out
}

func (w *written) block() api.Tree {
	out := tree(api.KBlock, "", w.token("{"))
	for w.often() && !w.deep() {
		out.Kids = append(out.Kids, w.stmt())
	}
	if w.often() || w.deep() {
		out.Kids = append(out.Kids, w.later(api.KUnit, ""))
	} else {
		out.Kids = append(out.Kids, w.below(w.expr))
	}
	w.token("}")
	return out
}

func (w *written) stmt() api.Tree {
	name := w.name()
	kind, at := 0, 0
	switch w.roll(5) {
	case 0:
		kind, at = api.KLet, w.tokens("let", name, "=")
	case 1:
		kind, at = api.KAssign, w.tokens(name, "=")
	case 2:
		return tree(api.KWhile, "", w.token("while"), w.below(w.expr), w.below(w.block))
	case 3:
		kind, at, name = api.KPrint, w.token("print"), ""
	default:
		value := w.below(w.expr)
		w.token(";")
		return tree(api.KDo, "", value.At, value)
	}
	value := w.below(w.expr)
	w.token(";")
	return tree(kind, name, at, value)
}
