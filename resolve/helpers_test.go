package resolve_test

import (
	"strconv"
	"strings"
	"testing"

	"recompile/api"
	"recompile/parser"
	"recompile/resolve"
	"recompile/shape"
)

// item returns the only item of a text; the places are the numbers of the nodes.
func item(t *testing.T, text string) api.Tree {
	t.Helper()
	items, errors := parser.Module(text)
	if len(errors) != 0 || len(items) != 1 {
		t.Fatalf("%q has %d items, and errors at %v", text, len(items), errors)
	}
	return shape.Number(items[0])
}

// expr returns the tree of an expr; the places are the numbers of the nodes.
func expr(t *testing.T, text string) api.Tree {
	t.Helper()
	tree, ok := parser.Expr(text)
	if !ok {
		t.Fatalf("%q is no expr", text)
	}
	return shape.Number(tree)
}

// binds reads binds: "x=a::x,y=b::z" are two.
func binds(text string) []api.Bind {
	var out []api.Bind
	for _, s := range strings.FieldsFunc(text, func(r rune) bool { return r == ',' }) {
		name, def, _ := strings.Cut(s, "=")
		out = append(out, api.Bind{Name: name, Def: def})
	}
	return out
}

// word returns the name of a kind.
func word(kind int) string {
	words := map[int]string{
		api.KConst: "const", api.KFn: "fn", api.KType: "record", api.KTrait: "trait", api.KImpl: "impl", api.KMacro: "macro", api.KSig: "sig", api.KParams: "params", api.KParam: "param",
		api.KArgs: "args", api.KArg: "arg", api.KSupers: "supers", api.KTypeOf: "type", api.KInt: "int", api.KBool: "bool", api.KName: "name", api.KCall: "call", api.KExpand: "expand",
		api.KNew: "new", api.KDot: "dot", api.KUnary: "unary", api.KBinary: "binary", api.KIf: "if", api.KBlock: "block", api.KUnit: "unit", api.KLet: "let", api.KAssign: "assign",
		api.KWhile: "while", api.KPrint: "print", api.KDo: "do", api.KLocal: "local", api.KGlobal: "global", api.KBad: "bad", api.KModule: "module",
	}
	if s, ok := words[kind]; ok {
		return s
	}
	return strconv.Itoa(kind)
}

// show writes a tree without its places, as "let x@0(int 1)".
func show(t api.Tree) string {
	s := word(t.Kind)
	if t.Text != "" {
		s += " " + t.Text
	}
	if len(t.Kids) == 0 {
		return s
	}
	return s + "(" + shows(t.Kids) + ")"
}

func shows(l []api.Tree) string {
	var out []string
	for _, t := range l {
		out = append(out, show(t))
	}
	return strings.Join(out, ", ")
}

// showDiags writes diagnostics, as "7@3 m, 4@9 n".
func showDiags(l []api.Diag) string {
	var out []string
	for _, d := range l {
		out = append(out, strconv.Itoa(d.Code)+"@"+strconv.Itoa(d.Node)+" "+d.Text)
	}
	return strings.Join(out, ", ")
}

// hasPlacesOf reports whether the nodes of a tree have the places of those that they come from. A node without Kids can come from one that had some.
func hasPlacesOf(t, from api.Tree) bool {
	if t.At != from.At || len(t.Kids) != len(from.Kids) && len(t.Kids) != 0 {
		return false
	}
	for i, k := range t.Kids {
		if !hasPlacesOf(k, from.Kids[i]) {
			return false
		}
	}
	return true
}

// check tests what a tree becomes, and the diagnostics.
func check(t *testing.T, in api.Tree, b []api.Bind, want, diags string) {
	t.Helper()
	got := resolve.Resolve(in, b)
	if show(got.Tree) != want || showDiags(got.Diags) != diags {
		t.Errorf("%s became %s, with %s\nwanted: %s, with %s", show(in), show(got.Tree), showDiags(got.Diags), want, diags)
	}
	if !hasPlacesOf(got.Tree, in) {
		t.Errorf("%s: places have changed: %v", show(in), got.Tree)
	}
}

func tree(kind int, text string, at int, kids ...api.Tree) api.Tree {
	return api.Tree{Kind: kind, Text: text, At: at, Kids: kids}
}

// numbered returns a node whose places are the numbers of the nodes.
func numbered(kind int, text string, kids ...api.Tree) api.Tree {
	return shape.Number(tree(kind, text, 0, kids...))
}

func name(text string) api.Tree { return tree(api.KName, text, 0) }

func typeOf(text string, args ...api.Tree) api.Tree { return tree(api.KTypeOf, text, 0, args...) }

func block(kids ...api.Tree) api.Tree { return tree(api.KBlock, "", 0, kids...) }

func let(text string, kids ...api.Tree) api.Tree { return tree(api.KLet, text, 0, kids...) }

// fn returns a KFn with these Kids.
func fn(kids ...api.Tree) api.Tree { return tree(api.KFn, "f", 0, kids...) }

// args returns a KArgs with these names.
func args(names ...string) api.Tree {
	out := tree(api.KArgs, "", 0)
	for _, n := range names {
		out.Kids = append(out.Kids, tree(api.KArg, n, 0))
	}
	return out
}

// params returns a KParams with these names.
func params(names ...string) api.Tree {
	out := tree(api.KParams, "", 0)
	for _, n := range names {
		out.Kids = append(out.Kids, tree(api.KParam, n, 0))
	}
	return out
}

// dice are numbers that look accidental and are the same in every run.
type dice struct{ state uint64 }

// roll returns a number from 0 to n-1.
func (d *dice) roll(n int) int {
	d.state = d.state*6364136223846793005 + 1442695040888963407
	return int(d.state>>33) % n
}

// pick returns one of some strings.
func (d *dice) pick(l ...string) string { return l[d.roll(len(l))] }
