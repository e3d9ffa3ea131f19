package lower_test

import (
	"slices"
	"strings"
	"testing"

	"recompile/api"
	"recompile/lower"
	"recompile/shape"
)

// kind returns a Kind, mostly one that the chapter names.
func (d *dice) kind() int {
	if d.roll(16) == 0 {
		return d.roll(44) - 2
	}
	return d.kindOf(api.KInt, api.KBool, api.KUnit, api.KBad, api.KLocal, api.KLocal, api.KLocal, api.KGlobal, api.KCall, api.KCall, api.KCall, api.KNew, api.KDot, api.KDot, api.KUnary, api.KUnary, api.KBinary, api.KBinary, api.KBinary, api.KBinary, api.KIf, api.KIf, api.KBlock, api.KBlock, api.KBlock, api.KLet, api.KLet, api.KLet, api.KAssign, api.KAssign, api.KWhile, api.KWhile, api.KPrint, api.KDo)
}

// text returns a Text for a node of a kind.
func (d *dice) text(kind int) string {
	switch kind {
	case api.KInt:
		return d.pick("0", "1", "7", "007", nines, nines+"9", "", "x", "-1")
	case api.KBool:
		return d.pick("true", "true", "false", "false", "")
	case api.KLocal, api.KLet, api.KAssign, api.KArg:
		return d.pick("x@0", "x@0", "y@1", "y@1", "z@2", "x")
	case api.KCall:
		return d.pick("p::f", "p::g<int>", "p::g<bool>", "p::g<$T>", "p::g<$T>", "p::g<$U>", "p::h<$T,$U>", "p::h<int,bool>", "$T", "p::g<", "p::g<p::L<$T>>", "error")
	case api.KGlobal, api.KNew:
		return d.pick("p::c", "p::R<int>", "")
	case api.KDot:
		return d.pick("0", "0", "1", "12", "012", "a", "")
	case api.KUnary:
		return d.pick("-", "!", "!", "+", "")
	case api.KBinary:
		return d.pick("&&", "&&", "||", "||", "+", "-", "*", "/", "%", "<", "==", "!", "")
	}
	return d.pick("", "x@0", "p::f", "1", "true")
}

// count returns a number of Kids that a node of a kind can have.
func (d *dice) count(kind int) int {
	if d.roll(12) == 0 {
		return d.roll(4)
	}
	switch kind {
	case api.KCall, api.KNew:
		return d.roll(4)
	case api.KDot, api.KUnary, api.KLet, api.KAssign, api.KPrint, api.KDo:
		return 1
	case api.KBinary, api.KWhile:
		return 2
	case api.KIf:
		return 3
	case api.KBlock:
		return 1 + d.roll(4)
	}
	return 0
}

// expr returns an expression of at most some levels.
func (d *dice) expr(levels int) api.Tree {
	t := api.Tree{Kind: d.kind()}
	if levels > 2 && d.roll(3) > 0 {
		t.Kind = d.kindOf(api.KCall, api.KNew, api.KUnary, api.KBinary, api.KBinary, api.KIf, api.KBlock, api.KBlock, api.KBlock, api.KLet, api.KAssign, api.KWhile, api.KWhile, api.KPrint)
	}
	if levels <= 1 {
		t.Kind = d.kindOf(api.KInt, api.KBool, api.KUnit, api.KLocal, api.KLocal, api.KLocal, api.KGlobal, api.KBad, api.KCall, api.KBlock)
	}
	t.Text = d.text(t.Kind)
	for range d.count(t.Kind) {
		if levels > 1 {
			t.Kids = append(t.Kids, d.expr(levels-1))
		}
	}
	return t
}

// definition returns a KFn or a KConst with an expression.
func (d *dice) definition() api.Tree {
	if d.roll(4) == 0 {
		return api.Tree{Kind: api.KConst, Text: "k", Kids: []api.Tree{{Kind: api.KTypeOf, Text: "int"}, d.expr(2 + d.roll(5))}}
	}
	args := api.Tree{Kind: api.KArgs}
	for range d.roll(5) {
		kind := api.KArg
		if d.roll(12) == 0 {
			kind = d.kind()
		}
		args.Kids = append(args.Kids, api.Tree{Kind: kind, Text: d.text(api.KArg)})
	}
	return api.Tree{Kind: api.KFn, Text: "f", Kids: []api.Tree{{Kind: api.KParams}, args, {Kind: api.KTypeOf, Text: "int"}, d.expr(2 + d.roll(5))}}
}

// anyTree returns a tree, mostly a definition, whose places are not the numbers.
func (d *dice) anyTree() api.Tree {
	t := d.definition()
	if d.roll(8) == 0 {
		t.Kind = d.kindOf(api.KFn, api.KConst, api.KImpl, api.KBlock)
	}
	if d.roll(8) == 0 {
		t.Kids = slices.Delete(t.Kids, 0, d.roll(len(t.Kids)))
	}
	if d.roll(8) == 0 {
		t.Kids = slices.Insert(t.Kids, d.roll(len(t.Kids)), t.Kids[d.roll(len(t.Kids))])
	}
	t = shape.Number(t)
	change(&t, func(n *api.Tree) { n.At = n.At*7%101 - 5 })
	return t
}

func (d *dice) names() []string {
	return strings.Fields(d.pick("", "T", "T", "T U", "T U", "U T", "T T", "V T U"))
}

func (d *dice) typeText() string {
	return d.pick("int", "int", "bool", "p::L<int>", "$T", "$U", "error", "p::f", "p::g<int>")
}

func (d *dice) args() []api.Type {
	var out []api.Type
	for range d.roll(4) {
		out = append(out, typed(d.typeText()))
	}
	return out
}

func (d *dice) targets() []api.Equation {
	var out []api.Equation
	for range d.roll(12) {
		a := d.pick("p::f", "p::g<"+d.typeText()+">", "p::g<"+d.typeText()+">", "p::h<"+d.typeText()+","+d.typeText()+">", "$T", d.typeText())
		out = append(out, api.Equation{A: typed(a), B: typed(d.pick("p::a", "p::b<int>", "p::c<p::L<bool>,int>", "error", "error<int>", "_", a))})
	}
	return out
}

func TestGeneratedTrees(t *testing.T) {
	t.Parallel()
	d := &dice{142}
	kinds, symbols, long := map[int]int{}, map[string]int{}, 0
	for range 40000 {
		in, names, args := d.anyTree(), d.names(), d.args()
		targets := d.targets()
		if d.roll(2) == 0 {
			targets = same(lower.Calls(in, names, args))
		}
		got := compare(t, in, names, args, targets)
		for _, o := range got.Ops {
			kinds[o.Kind]++
			symbols[o.Sym]++
		}
		if len(got.Ops) > 40 {
			long++
		}
	}
	for kind := api.OpConst; kind <= api.OpGlobal; kind++ {
		if kinds[kind] < 2000 {
			t.Errorf("only %d operations of the kind %d", kinds[kind], kind)
		}
	}
	if len(kinds) != api.OpGlobal || len(symbols) < 15 || long < 1500 {
		t.Errorf("operations of %d kinds, %d symbols, %d long codes", len(kinds), len(symbols), long)
	}
}

// trees returns all trees with n nodes, each of which is one of some words.
func trees(n int, words []string) []string {
	if n == 1 {
		return words
	}
	var out []string
	for _, kids := range forests(n-1, words) {
		for _, w := range words {
			out = append(out, w+"("+kids+")")
		}
	}
	return out
}

// forests returns all lists of trees with n nodes in all.
func forests(n int, words []string) []string {
	out := slices.Clone(trees(n, words))
	for first := 1; first < n; first++ {
		for _, rest := range forests(n-first, words) {
			for _, k := range trees(first, words) {
				out = append(out, k+", "+rest)
			}
		}
	}
	return out
}

func TestEverySmallTree(t *testing.T) {
	t.Parallel()
	all := strings.Split("int 1,int x,bool true,unit,bad x,local x@0,local y@1,global p::c,call p::f,call p::g<$T>,new p::R,dot 0,dot x,unary -,unary !,binary -,binary &&,binary ||,if,block,let x@0,let y@1,assign x@0,assign y@1,while,print,do,name n", ",")
	few := strings.Split("int 1,local y@1,call p::f,dot 0,binary &&,binary ||,if,block,let y@1,assign y@1,while,print", ",")
	targets := equations("p::f = p::a; p::g<int> = p::b")
	count := 0
	for i, words := range [][]string{all, all, all, few} {
		for _, text := range trees(i+1, words) {
			count++
			compare(t, function(strings.Repeat("x@0 ", count%3), text), []string{"T"}, typesOf("int"), targets)
		}
	}
	if count < 140000 {
		t.Errorf("only %d trees", count)
	}
}
