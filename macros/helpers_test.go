package macros_test

import (
	"slices"
	"strconv"
	"strings"
	"testing"

	"recompile/api"
	"recompile/macros"
	"recompile/parser"
)

// item returns the only item of a text.
func item(t *testing.T, text string) api.Tree {
	t.Helper()
	items, errors := parser.Module(text)
	if len(errors) != 0 || len(items) != 1 {
		t.Fatalf("%q has %d items, and errors at %v", text, len(items), errors)
	}
	return items[0]
}

// expr returns the tree of a text.
func expr(t *testing.T, text string) api.Tree {
	t.Helper()
	tree, ok := parser.Expr(text)
	if !ok {
		t.Fatalf("%q is no expr", text)
	}
	return tree
}

// binds reads binds: "x=a::x,y=b::z" are two.
func binds(text string) []api.Bind {
	var out []api.Bind
	for _, s := range strings.FieldsFunc(text, func(r rune) bool { return r == ',' }) {
		name, def, _ := strings.Cut(s, "=")
		out = append(out, api.Bind{Name: name, Def: def})
	}
	return out
}

// prepared returns the macros of texts as "p::m(x) = x", with the binds of their module.
func prepared(t *testing.T, b []api.Bind, l ...string) []api.Macro {
	t.Helper()
	var out []api.Macro
	for _, s := range l {
		def, rest, _ := strings.Cut(s, "(")
		out = append(out, macros.Prepare(def, item(t, "macro m("+rest+";"), b))
	}
	return out
}

// word returns the name of a kind.
func word(kind int) string {
	words := map[int]string{
		api.KInt: "int", api.KBool: "bool", api.KName: "name", api.KCall: "call", api.KExpand: "expand", api.KNew: "new", api.KDot: "dot", api.KUnary: "unary",
		api.KBinary: "binary", api.KIf: "if", api.KBlock: "block", api.KUnit: "unit", api.KLet: "let", api.KAssign: "assign", api.KWhile: "while", api.KPrint: "print",
		api.KDo: "do", api.KBad: "bad",
	}
	if s, ok := words[kind]; ok {
		return s
	}
	return strconv.Itoa(kind)
}

// show writes a tree, as "binary +@2(name x@2, int 1@4)".
func show(t api.Tree) string {
	s := word(t.Kind) + " " + t.Text + "@" + strconv.Itoa(t.At)
	if len(t.Kids) == 0 {
		return s
	}
	return s + "(" + shows(t.Kids) + ")"
}

func shows(l []api.Tree) string {
	var out []string
	for _, t := range l {
		out = append(out, show(t))
	}
	return strings.Join(out, ", ")
}

// showDiags writes diagnostics, as "7@3 m, 4@9 n".
func showDiags(l []api.Diag) string {
	var out []string
	for _, d := range l {
		out = append(out, strconv.Itoa(d.Code)+"@"+strconv.Itoa(d.Node)+" "+d.Text)
	}
	return strings.Join(out, ", ")
}

// showMacro writes a macro.
func showMacro(m api.Macro) string {
	return m.Def + "(" + strings.Join(m.Params, ",") + ") = " + show(m.Body)
}

func tree(kind int, text string, at int, kids ...api.Tree) api.Tree {
	return api.Tree{Kind: kind, Text: text, At: at, Kids: kids}
}

// call returns a KExpand.
func call(text string, at int, args ...api.Tree) api.Tree {
	return tree(api.KExpand, text, at, args...)
}

func name(text string) api.Tree { return tree(api.KName, text, 0) }

// wide returns a tree with n nodes.
func wide(n int) api.Tree {
	return tree(api.KBlock, "", 0, slices.Repeat([]api.Tree{tree(api.KInt, "1", 0)}, n-1)...)
}

// dice are numbers that look accidental and are the same in every run.
type dice struct{ state uint64 }

// roll returns a number from 0 to n-1.
func (d *dice) roll(n int) int {
	d.state = d.state*6364136223846793005 + 1442695040888963407
	return int(d.state>>33) % n
}

// pick returns one of some strings.
func (d *dice) pick(l ...string) string { return l[d.roll(len(l))] }
