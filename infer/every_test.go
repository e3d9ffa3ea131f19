package infer_test

import (
	"slices"
	"strings"
	"testing"

	"recompile/api"
	"recompile/shape"
)

// kind returns a Kind, mostly one that an expression has.
func (d *dice) kind() int {
	if d.roll(12) == 0 {
		return d.roll(44) - 2
	}
	return d.kindOf(api.KInt, api.KBool, api.KUnit, api.KLocal, api.KLocal, api.KLocal, api.KGlobal, api.KCall, api.KCall, api.KCall, api.KCall, api.KNew, api.KNew, api.KNew, api.KDot, api.KDot, api.KUnary, api.KBinary, api.KIf, api.KBlock, api.KBlock, api.KBlock, api.KBlock, api.KLet, api.KLet, api.KLet, api.KAssign, api.KWhile, api.KPrint, api.KDo, api.KBad)
}

func (d *dice) kindOf(l ...int) int { return l[d.roll(len(l))] }

// text returns a Text for a node of a kind.
func (d *dice) text(kind int) string {
	switch kind {
	case api.KLocal, api.KLet, api.KAssign, api.KArg:
		return d.pick("x@0", "x@0", "y@1", "y@1", "z@2", "x")
	case api.KGlobal, api.KCall, api.KNew:
		if d.roll(12) == 0 {
			return d.pick("p::c", "p::f", "p::h", "p::R", "p::L", "", "?3", "error")
		}
		return map[int]string{api.KGlobal: d.pick("p::c", "p::d"), api.KCall: d.pick("p::f", "p::f", "p::g", "p::h"), api.KNew: d.pick("p::R", "p::L", "p::P")}[kind]
	case api.KDot:
		return d.pick("a", "b", "c", "d")
	case api.KUnary, api.KBinary:
		return d.pick("-", "!", "+", "<", "==", "&&", "||", "", "%")
	}
	return d.pick("", "x@0", "p::f", "1", "int")
}

// count returns a number of Kids that a node of a kind can have.
func (d *dice) count(kind int, text string, l []api.Known) int {
	if d.roll(12) == 0 {
		return d.roll(4)
	}
	switch kind {
	case api.KCall, api.KNew:
		if i := slices.IndexFunc(l, func(k api.Known) bool { return k.Def == text }); i >= 0 {
			return len(l[i].Sig.Args)
		}
	case api.KDot, api.KUnary, api.KLet, api.KAssign, api.KPrint, api.KDo:
		return 1
	case api.KBinary, api.KWhile:
		return 2
	case api.KIf:
		return 3
	case api.KBlock:
		return 1 + d.roll(4)
	}
	return 0
}

// expr returns an expression of at most some levels.
func (d *dice) expr(levels int, l []api.Known) api.Tree {
	t := api.Tree{Kind: d.kind()}
	if levels <= 1 {
		t.Kind = d.kindOf(api.KInt, api.KBool, api.KUnit, api.KLocal, api.KLocal, api.KLocal, api.KLocal, api.KGlobal, api.KGlobal, api.KBad, api.KCall)
	}
	t.Text = d.text(t.Kind)
	if count := d.count(t.Kind, t.Text, l); levels > 1 {
		for range count {
			t.Kids = append(t.Kids, d.expr(levels-1, l))
		}
	}
	return t
}

// typeOf returns a type of at most some levels.
func (d *dice) typeOf(levels int, leaves ...string) api.Type {
	if levels <= 1 || d.roll(3) == 0 {
		return ty(d.pick(leaves...))
	}
	switch d.roll(3) {
	case 0:
		return ty("p::P", d.typeOf(levels-1, leaves...), d.typeOf(levels-1, leaves...))
	case 1:
		return ty("p::L", d.typeOf(levels-1, leaves...))
	}
	return ty("p::R")
}

// leaves returns Names of the types in signatures, sometimes others than types have.
func (d *dice) leaves() []string {
	l := []string{"int", "int", "bool", "unit", "$T", "$T", "$U", "$U", "p::R"}
	if d.roll(8) == 0 {
		l = append(l, "error", "$V", "$")
	}
	if d.roll(20) == 0 {
		l = append(l, "?3", "?7", "?50", "?x", "?01", "")
	}
	return l
}

// signature returns a signature of a kind.
func (d *dice) signature(def string, kind int) api.Signature {
	x := api.Signature{Kind: kind, Result: d.typeOf(3, d.leaves()...)}
	if kind != api.SigConst {
		for _, name := range []string{"T", "U", "V", ""}[:d.roll(3)+d.roll(2)*d.roll(2)] {
			x.Params = append(x.Params, api.Param{Name: name, Bound: d.pick("", "", "p::S", "p::Q")})
		}
		if d.roll(20) == 0 && len(x.Params) > 1 {
			x.Params[1].Name = x.Params[0].Name
		}
		for range d.roll(4) {
			x.Args = append(x.Args, d.typeOf(3, d.leaves()...))
			x.Names = append(x.Names, d.pick("a", "b", "c"))
		}
	}
	if kind == api.SigRecord {
		x.Result = ty(def)
		for _, p := range x.Params {
			x.Result.Args = append(x.Result.Args, ty("$"+p.Name))
		}
		if d.roll(20) == 0 {
			x.Names = append(x.Names, "d")
		}
	}
	return x
}

// known returns signatures for the definitions of the trees.
func (d *dice) known() []api.Known {
	kinds := map[string]int{"p::c": api.SigConst, "p::d": api.SigConst, "p::f": api.SigFn, "p::g": api.SigFn, "p::h": api.SigMethod, "p::R": api.SigRecord, "p::L": api.SigRecord, "p::P": api.SigRecord}
	var out []api.Known
	for _, def := range strings.Fields("p::c p::d p::f p::g p::h p::R p::L p::P") {
		if d.roll(12) > 0 {
			out = append(out, api.Known{Def: def, Sig: d.signature(def, kinds[def])})
		}
	}
	if d.roll(8) == 0 {
		def := d.pick("p::f", "p::R", "p::c", "", "?3", "error")
		out = slices.Insert(out, d.roll(len(out)+1), api.Known{Def: def, Sig: d.signature(def, d.roll(9))})
	}
	return out
}

// typeTree returns the tree of a type.
func typeTree(t api.Type) api.Tree {
	out := api.Tree{Kind: api.KTypeOf, Text: t.Name}
	for _, k := range t.Args {
		out.Kids = append(out.Kids, typeTree(k))
	}
	return out
}

// definition returns a KFn or a KConst with an expression.
func (d *dice) definition(l []api.Known) api.Tree {
	result := typeTree(d.typeOf(2, d.leaves()...))
	body := d.expr(2+d.roll(4), l)
	if d.roll(4) == 0 {
		return api.Tree{Kind: api.KConst, Text: "k", Kids: []api.Tree{result, body}}
	}
	params, args := api.Tree{Kind: api.KParams}, api.Tree{Kind: api.KArgs}
	for _, name := range []string{"T", "U", "T"}[:d.roll(4)] {
		p := api.Tree{Kind: api.KParam, Text: name}
		if d.roll(2) == 0 {
			p.Kids = []api.Tree{{Kind: api.KName, Text: d.pick("p::S", "p::Q")}}
		}
		params.Kids = append(params.Kids, p)
	}
	for range d.roll(5) {
		a := api.Tree{Kind: api.KArg, Text: d.text(api.KArg)}
		if d.roll(12) > 0 {
			a.Kids = []api.Tree{typeTree(d.typeOf(3, d.leaves()...))}
		}
		args.Kids = append(args.Kids, a)
	}
	return api.Tree{Kind: api.KFn, Text: "f", Kids: []api.Tree{params, args, result, body}}
}

// anyTree returns a tree, mostly a definition with something to find types in, whose places are not the numbers.
func (d *dice) anyTree(l []api.Known) api.Tree {
	t := d.definition(l)
	if d.roll(8) == 0 {
		t.Kind = d.kindOf(api.KFn, api.KConst, api.KImpl, api.KBlock)
	}
	if d.roll(8) == 0 {
		t.Kids = slices.Delete(t.Kids, 0, d.roll(len(t.Kids)))
	}
	if d.roll(8) == 0 {
		i := d.roll(len(t.Kids))
		t.Kids = slices.Insert(t.Kids, i, t.Kids[d.roll(len(t.Kids))])
	}
	if d.roll(16) == 0 {
		change(&t, func(n *api.Tree) {
			if d.roll(10) == 0 {
				n.Kind = d.roll(44) - 2
			}
		})
	}
	t = shape.Number(t)
	change(&t, func(n *api.Tree) { n.At = n.At*7%101 - 5 })
	return t
}

func TestGeneratedTrees(t *testing.T) {
	t.Parallel()
	d := &dice{132}
	codes := map[int]int{}
	goals, clean, texts := 0, 0, 0
	for range 30000 {
		l := d.known()
		got := compare(t, d.anyTree(l), l)
		for _, x := range got.Diags {
			codes[x.Code]++
		}
		goals += len(got.Goals)
		if len(got.Diags) == 0 {
			clean++
		}
		change(&got.Tree, func(n *api.Tree) {
			if strings.HasSuffix(n.Text, ">") {
				texts++
			}
		})
	}
	for _, code := range []int{api.CodeKind, api.CodeCount, api.CodeType, api.CodeField, api.CodeOpen} {
		if codes[code] < 700 {
			t.Errorf("only %d diagnostics with the code %d", codes[code], code)
		}
	}
	if goals < 4000 || clean < 4000 || texts < 400 {
		t.Errorf("%d goals, %d trees without diagnostics, %d texts with types", goals, clean, texts)
	}
}

// trees returns all trees with n nodes, each of which is one of some words.
func trees(n int, words []string) []string {
	if n == 1 {
		return words
	}
	var out []string
	for _, kids := range forests(n-1, words) {
		for _, w := range words {
			out = append(out, w+"("+kids+")")
		}
	}
	return out
}

// forests returns all lists of trees with n nodes in all.
func forests(n int, words []string) []string {
	out := slices.Clone(trees(n, words))
	for first := 1; first < n; first++ {
		for _, rest := range forests(n-first, words) {
			for _, k := range trees(first, words) {
				out = append(out, k+", "+rest)
			}
		}
	}
	return out
}

func TestEverySmallTree(t *testing.T) {
	t.Parallel()
	l := definitions()
	all := strings.Split("int 1,bool true,unit,bad x,local x@0,local y@1,global p::l,call p::any,call p::id,call p::head,new p::E,new p::L,dot head,unary -,binary ==,binary &&,if,block,let y@1,assign x@0,assign y@1,while,print,do", ",")
	few := strings.Split("int 1,local y@1,call p::any,call p::same,dot head,if,block,let y@1", ",")
	count := 0
	for i, words := range [][]string{all, all, all, few} {
		for _, text := range trees(i+1, words) {
			count++
			compare(t, function("T", "x@0:p::L<$T>", []string{"int", "p::L<$T>"}[count%2], text), l)
		}
	}
	if count < 40000 {
		t.Errorf("only %d trees", count)
	}
}
