package infer

import (
	"strconv"

	"recompile/api"
	"recompile/shape"
	"recompile/signature"
	"recompile/solution"
)

// Names of types that the language has.
const (
	intName   = "int"
	boolName  = "bool"
	unitName  = "unit"
	errorName = "error"
)

// body finds the types of the nodes in the last Kid of a definition, and changes the nodes in place.
type body struct {
	known     map[string]api.Signature
	variables map[string]api.Type // the types of the variables of the program, as far as they are known
	types     *solution.Solution
	number    int // the number of the node that is visited next
	further   int // the number of the next variable that is that of no node
	uses      []use
	diags     []api.Diag
	goals     []api.Goal
	at        []int // the places of the goals
}

// newBody returns the body of a definition before its nodes are visited; l has the signatures of what it needs.
func newBody(t api.Tree, l []api.Known) *body {
	b := &body{known: map[string]api.Signature{}, variables: arguments(t), types: solution.New(), further: shape.Count(t)}
	b.number = b.further - shape.Count(t.Kids[len(t.Kids)-1])
	for _, k := range l {
		if _, twice := b.known[k.Def]; !twice {
			b.known[k.Def] = k.Sig
		}
	}
	return b
}

// arguments returns the types of the arguments of a function.
func arguments(t api.Tree) map[string]api.Type {
	out := map[string]api.Type{}
	if t.Kind != api.KFn {
		return out
	}
	for _, args := range t.Kids {
		if args.Kind != api.KArgs {
			continue
		}
		for _, k := range args.Kids {
			if k.Kind == api.KArg {
				out[k.Text] = typeOf(k)
			}
		}
	}
	return out
}

// typeOf returns the type of a KArg.
func typeOf(t api.Tree) api.Type {
	if len(t.Kids) == 0 {
		return named(errorName)
	}
	return signature.Type(t.Kids[0])
}

func named(name string) api.Type { return api.Type{Name: name} }

// variable returns the variable with a number.
func variable(number int) api.Type { return named("?" + strconv.Itoa(number)) }

// node is a node whose Kids were visited.
type node struct {
	tree   *api.Tree
	number int
	kids   []api.Type // the types of its Kids
}

// kid returns the type of a Kid.
func (n node) kid(k int) api.Type {
	if k < 0 || k >= len(n.kids) {
		return named(errorName)
	}
	return n.kids[k]
}

// visit gives equations for a node and all below it, and returns the variable that is its type.
func (b *body) visit(t *api.Tree) api.Type {
	n := node{tree: t, number: b.number}
	b.number++
	for i := range t.Kids {
		n.kids = append(n.kids, b.visit(&t.Kids[i]))
	}
	own := variable(n.number)
	b.equal(own, b.rule(n), t.At)
	return own
}

// equal adds an equation that a node at a place gives.
func (b *body) equal(x, y api.Type, at int) {
	if !b.types.Add(api.Equation{A: x, B: y}) {
		b.diags = append(b.diags, api.Diag{Code: api.CodeType, Node: at})
	}
}

// want adds the equation that a Kid of a node has a type.
func (b *body) want(n node, k int, t api.Type) {
	at := n.tree.At
	if k < len(n.kids) {
		at = n.tree.Kids[k].At
	}
	b.equal(n.kid(k), t, at)
}

// fail adds a diagnostic of a node, which then has the type error.
func (b *body) fail(t *api.Tree, code int) api.Type {
	b.diags = append(b.diags, api.Diag{Code: code, Node: t.At, Text: t.Text})
	return named(errorName)
}

// rule adds the equations for the Kids of a node, and returns what the type of the node is equal to.
func (b *body) rule(n node) api.Type {
	switch n.tree.Kind {
	case api.KInt:
		return named(intName)
	case api.KBool:
		return named(boolName)
	case api.KLocal:
		return b.local(n)
	case api.KGlobal:
		return b.global(n)
	case api.KCall:
		return b.use(n, api.SigFn, api.SigMethod)
	case api.KNew:
		return b.use(n, api.SigRecord)
	case api.KDot:
		return b.dot(n)
	case api.KUnary:
		return b.unary(n)
	case api.KBinary:
		return b.binary(n)
	case api.KIf:
		b.want(n, 0, named(boolName))
		b.want(n, 2, n.kid(1))
		return n.kid(1)
	case api.KBlock:
		return n.kid(len(n.kids) - 1)
	case api.KUnit, api.KLet, api.KAssign, api.KWhile, api.KPrint, api.KDo:
		b.statement(n)
		return named(unitName)
	}
	return named(errorName)
}

func (b *body) local(n node) api.Type {
	t, ok := b.variables[n.tree.Text]
	if !ok {
		return named(errorName)
	}
	return t
}

func (b *body) global(n node) api.Type {
	sig := b.known[n.tree.Text]
	if sig.Kind != api.SigConst {
		return b.fail(n.tree, api.CodeKind)
	}
	return sig.Result
}

// unary adds the equation for the operand of a sign, and returns the type of its value.
func (b *body) unary(n node) api.Type {
	t := named(intName)
	if n.tree.Text == "!" {
		t = named(boolName)
	}
	b.want(n, 0, t)
	return t
}

// binary adds the equations for the operands of a sign, and returns the type of its value.
func (b *body) binary(n node) api.Type {
	operand, value := named(intName), named(intName)
	switch n.tree.Text {
	case "<", "==":
		value = named(boolName)
	case "&&", "||":
		operand, value = named(boolName), named(boolName)
	}
	b.want(n, 0, operand)
	b.want(n, 1, operand)
	return value
}

// statement adds the equations for the Kids of a node that has no value.
func (b *body) statement(n node) {
	switch n.tree.Kind {
	case api.KLet:
		if len(n.kids) > 0 {
			b.variables[n.tree.Text] = n.kid(0)
		}
	case api.KAssign:
		if t, ok := b.variables[n.tree.Text]; ok {
			b.want(n, 0, t)
		}
	case api.KWhile:
		b.want(n, 0, named(boolName))
	case api.KPrint:
		b.want(n, 0, named(intName))
	}
}
