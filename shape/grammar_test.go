package shape_test

import (
	"strings"

	"recompile/api"
	"recompile/lexer"
)

// grammar is a second reading of the grammar: it tells the trees that the parser returns for some short text, without a text. It keeps which exprs stand in parentheses, by the signs of both.
type grammar struct {
	self    bool // whether Self is a type
	wrapped map[string]bool
}

func isName(s string) bool { return isToken(s, api.TokName) }

// isToken reports whether a text is a token of a kind, and nothing else.
func isToken(s string, kind int) bool {
	l := lexer.Tokens(s)
	return len(l) == 2 && l[0].Kind == kind && l[0].Text == s
}

// list reports whether all of some nodes are such.
func list(l []api.Tree, is func(api.Tree) bool) bool {
	for _, t := range l {
		if !is(t) {
			return false
		}
	}
	return true
}

// kids returns as many nodes as there have to be below a node with a Text; none if there are others.
func kids(t api.Tree, n int, text bool) []api.Tree {
	if len(t.Kids) != n || text != (t.Text != "") || text && !isName(t.Text) {
		return nil
	}
	return t.Kids
}

// legal reports whether a tree is an item, an expr or a type.
func (g *grammar) legal(t api.Tree) bool {
	return g.item(t) || g.expr(t, 1) || g.typeOf(t, 1)
}

func (g *grammar) item(t api.Tree) bool {
	switch t.Kind {
	case api.KUse, api.KPubUse:
		return isName(t.Text) && len(t.Kids) == 0
	case api.KConst:
		k := kids(t, 2, true)
		return k != nil && g.typeOf(k[0], 1) && g.expr(k[1], 1)
	case api.KFn:
		return g.fun(t) && g.params(t.Kids[0])
	case api.KType:
		k := kids(t, 2, true)
		return k != nil && g.params(k[0]) && g.args(k[1])
	case api.KTrait:
		return isName(t.Text) && len(t.Kids) > 0 && g.names(t.Kids[0], api.KSupers) && list(t.Kids[1:], g.sig)
	case api.KImpl:
		return isName(t.Text) && len(t.Kids) > 1 && g.params(t.Kids[0]) && g.typeOf(t.Kids[1], 1) && list(t.Kids[2:], func(f api.Tree) bool {
			return g.fun(f) && len(f.Kids[0].Kids) == 0
		})
	case api.KMacro:
		k := kids(t, 2, true)
		return k != nil && g.names(k[0], api.KArgs) && g.expr(k[1], 1)
	}
	return false
}

func (g *grammar) fun(t api.Tree) bool {
	k := kids(t, 4, true)
	return t.Kind == api.KFn && k != nil && g.params(k[0]) && g.args(k[1]) && g.typeOf(k[2], 1) && g.block(k[3], 1)
}

func (g *grammar) sig(t api.Tree) bool {
	g.self = true
	defer func() { g.self = false }()
	k := kids(t, 2, true)
	return t.Kind == api.KSig && k != nil && g.args(k[0]) && g.typeOf(k[1], 1)
}

func (g *grammar) params(t api.Tree) bool {
	return t.Kind == api.KParams && t.Text == "" && list(t.Kids, func(p api.Tree) bool {
		return p.Kind == api.KParam && isName(p.Text) && len(p.Kids) < 2 && list(p.Kids, isNameNode)
	})
}

func (g *grammar) args(t api.Tree) bool {
	return t.Kind == api.KArgs && t.Text == "" && list(t.Kids, func(a api.Tree) bool {
		return a.Kind == api.KArg && isName(a.Text) && len(a.Kids) == 1 && g.typeOf(a.Kids[0], 1)
	})
}

func (g *grammar) names(t api.Tree, kind int) bool {
	return t.Kind == kind && t.Text == "" && list(t.Kids, isNameNode)
}

func isNameNode(t api.Tree) bool { return t.Kind == api.KName && isName(t.Text) && len(t.Kids) == 0 }

func (g *grammar) typeOf(t api.Tree, level int) bool {
	if t.Kind != api.KTypeOf || level > api.MaxDepth {
		return false
	}
	switch t.Text {
	case "int", "bool", "unit":
		return len(t.Kids) == 0
	case "Self":
		return len(t.Kids) == 0 && g.self
	}
	return isName(t.Text) && list(t.Kids, func(k api.Tree) bool { return g.typeOf(k, level+1) })
}

func (g *grammar) expr(t api.Tree, level int) bool {
	if level > api.MaxDepth {
		return false
	}
	below := func(k api.Tree) bool { return g.expr(k, level+1) }
	switch t.Kind {
	case api.KInt:
		return isToken(t.Text, api.TokInt) && len(t.Kids) == 0
	case api.KBool:
		return (t.Text == "true" || t.Text == "false") && len(t.Kids) == 0
	case api.KName:
		return isNameNode(t)
	case api.KCall, api.KExpand, api.KNew:
		return isName(t.Text) && list(t.Kids, below)
	case api.KDot:
		k := kids(t, 1, true)
		return k != nil && g.operand("@.x", k[0], level)
	case api.KUnary:
		return (t.Text == "-" || t.Text == "!") && len(t.Kids) == 1 && level < api.MaxDepth && g.operand("-@", t.Kids[0], level+1)
	case api.KBinary:
		return len(t.Kids) == 2 && isSign(t.Text) && g.operand("@"+t.Text+"1", t.Kids[0], level) && g.operand("1"+t.Text+"@", t.Kids[1], level)
	case api.KIf:
		k := kids(t, 3, false)
		return k != nil && below(k[0]) && g.block(k[1], level+1) && g.block(k[2], level+1)
	}
	return g.block(t, level)
}

func isSign(s string) bool { return strings.Contains(" || && < == + - * / % ", " "+s+" ") && s != "" }

// operand reports whether a node can stand in a place, in parentheses if it must.
func (g *grammar) operand(text string, t api.Tree, level int) bool {
	like := "a"
	if t.Kind == api.KUnary {
		like = "-a"
	}
	if t.Kind == api.KBinary && isSign(t.Text) {
		like = "a" + t.Text + "b"
	}
	key := text + " " + like
	if _, known := g.wrapped[key]; !known {
		p := places(text)[0]
		g.wrapped[key] = !readsAs(strings.ReplaceAll(text, "@", like), p.of(must(like)))
	}
	if g.wrapped[key] {
		level++
	}
	return g.expr(t, level)
}

func (g *grammar) block(t api.Tree, level int) bool {
	if t.Kind != api.KBlock || t.Text != "" || len(t.Kids) == 0 || level > api.MaxDepth {
		return false
	}
	last := t.Kids[len(t.Kids)-1]
	isUnit := last.Kind == api.KUnit && last.Text == "" && len(last.Kids) == 0
	return (isUnit || g.expr(last, level+1)) && list(t.Kids[:len(t.Kids)-1], func(s api.Tree) bool { return g.stmt(s, level+1) })
}

func (g *grammar) stmt(t api.Tree, level int) bool {
	switch t.Kind {
	case api.KLet, api.KAssign:
		k := kids(t, 1, true)
		return k != nil && g.expr(k[0], level)
	case api.KPrint, api.KDo:
		k := kids(t, 1, false)
		return k != nil && g.expr(k[0], level)
	case api.KWhile:
		k := kids(t, 2, false)
		return k != nil && g.expr(k[0], level) && g.block(k[1], level)
	}
	return false
}
