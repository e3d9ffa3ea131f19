package signature_test

import (
	"fmt"
	"slices"
	"strconv"
	"strings"
	"testing"

	"recompile/api"
	"recompile/parser"
	"recompile/resolve"
	"recompile/shape"
)

// words are the names of the kinds of nodes in the trees of these tests.
func words() map[int]string {
	return map[int]string{
		0: "zero", api.KUse: "use", api.KPubUse: "pubuse", api.KConst: "const", api.KFn: "fn", api.KType: "record", api.KTrait: "trait", api.KImpl: "impl", api.KMacro: "macro", api.KSig: "sig",
		api.KParams: "params", api.KParam: "param", api.KArgs: "args", api.KArg: "arg", api.KSupers: "supers", api.KTypeOf: "type", api.KInt: "int", api.KBool: "bool", api.KName: "name",
		api.KCall: "call", api.KExpand: "expand", api.KNew: "new", api.KDot: "dot", api.KUnary: "unary", api.KBinary: "binary", api.KIf: "if", api.KBlock: "block", api.KUnit: "unit",
		api.KLet: "let", api.KAssign: "assign", api.KWhile: "while", api.KPrint: "print", api.KDo: "do", api.KLocal: "local", api.KGlobal: "global", api.KBad: "bad", api.KModule: "module",
	}
}

// of reads a tree, as "fn f(params(param T), args(arg x@0(type int)))". The places are the numbers of the nodes.
func of(text string) api.Tree {
	t, rest := cut(text)
	if rest != "" {
		panic(text + " goes on with " + rest)
	}
	return shape.Number(t)
}

// cut reads the tree with which a text begins, and returns what is behind it.
func cut(text string) (api.Tree, string) {
	end := strings.IndexAny(text+",", "(),")
	word, name, _ := strings.Cut(text[:end], " ")
	t, rest := api.Tree{Kind: -1, Text: name}, text[end:]
	for kind, w := range words() {
		if w == word {
			t.Kind = kind
		}
	}
	if t.Kind < 0 {
		panic("no kind: " + word)
	}
	if !strings.HasPrefix(rest, "(") {
		return t, rest
	}
	for rest[0] != ')' {
		var k api.Tree
		k, rest = cut(strings.TrimLeft(rest[1:], " "))
		t.Kids = append(t.Kids, k)
	}
	return t, rest[1:]
}

// show writes a tree without its places, as of reads it.
func show(t api.Tree) string {
	s, ok := words()[t.Kind]
	if !ok {
		s = strconv.Itoa(t.Kind)
	}
	if t.Text != "" {
		s += " " + t.Text
	}
	var kids []string
	for _, k := range t.Kids {
		kids = append(kids, show(k))
	}
	if kids == nil {
		return s
	}
	return s + "(" + strings.Join(kids, ", ") + ")"
}

// showType writes a type, as "L<int, $T>".
func showType(t api.Type) string {
	if len(t.Args) == 0 {
		return t.Name
	}
	return t.Name + "<" + showTypes(t.Args) + ">"
}

func showTypes(l []api.Type) string {
	var out []string
	for _, t := range l {
		out = append(out, showType(t))
	}
	return strings.Join(out, ", ")
}

// showSig writes what a signature has, as "fn <T: p::S, U> [names] (int, bool) -> int of p::S".
func showSig(x api.Signature) string {
	out := []string{"none", "const", "fn", "record", "trait", "method", "macro", "impl"}[x.Kind]
	var params []string
	for _, p := range x.Params {
		if p.Bound != "" {
			p.Name += ": " + p.Bound
		}
		params = append(params, p.Name)
	}
	if len(x.Params) > 0 {
		out += " <" + strings.Join(params, ", ") + ">"
	}
	if len(x.Names) > 0 {
		out += " [" + strings.Join(x.Names, ", ") + "]"
	}
	if len(x.Args) > 0 {
		out += " (" + showTypes(x.Args) + ")"
	}
	if x.Result.Name != "" || len(x.Result.Args) > 0 {
		out += " -> " + showType(x.Result)
	}
	if x.Trait != "" {
		out += " of " + x.Trait
	}
	return out
}

// exact writes a signature so that no two that differ look the same, and nil like an empty list.
func exact(x api.Signature) string {
	var args []string
	for _, t := range x.Args {
		args = append(args, exactType(t))
	}
	return fmt.Sprintf("%d %q %q %q %s %q", x.Kind, x.Params, x.Names, args, exactType(x.Result), x.Trait)
}

func exactType(t api.Type) string {
	var args []string
	for _, k := range t.Args {
		args = append(args, exactType(k))
	}
	return strconv.Quote(t.Name) + "<" + strings.Join(args, " ") + ">"
}

// showDiags writes diagnostics, as "7@3 m, 8@9 n".
func showDiags(l []api.Diag) string {
	var out []string
	for _, d := range l {
		out = append(out, strconv.Itoa(d.Code)+"@"+strconv.Itoa(d.Node)+" "+d.Text)
	}
	return strings.Join(out, ", ")
}

// known reads definitions with their signatures: "p::R record 2, p::S trait" are a record with two Params and a trait.
func known(text string) []api.Known {
	kinds := map[string]int{"none": 0, "const": api.SigConst, "fn": api.SigFn, "record": api.SigRecord, "trait": api.SigTrait, "method": api.SigMethod, "macro": api.SigMacro, "impl": api.SigImpl}
	var out []api.Known
	for _, s := range strings.FieldsFunc(text, func(r rune) bool { return r == ',' }) {
		f := strings.Fields(s)
		x := api.Known{Def: f[0], Sig: api.Signature{Kind: kinds[f[1]]}}
		if len(f) > 2 {
			n, _ := strconv.Atoi(f[2])
			x.Sig.Params = make([]api.Param, n)
		}
		out = append(out, x)
	}
	return out
}

// resolved returns the only item of a text after name resolution in a module p; the places are the numbers of the nodes.
func resolved(t *testing.T, text string) api.Tree {
	t.Helper()
	items, errors := parser.Module(text)
	if len(errors) != 0 || len(items) != 1 {
		t.Fatalf("%q has %d items, and errors at %v", text, len(items), errors)
	}
	var binds []api.Bind
	for _, name := range strings.Fields("L P R S U f g c Show") {
		binds = append(binds, api.Bind{Name: name, Def: "p::" + name})
	}
	binds = append(binds, api.Bind{Name: "two", Def: "p::two"}, api.Bind{Name: "two", Def: "q::two"})
	return resolve.Resolve(shape.Number(items[0]), binds).Tree
}

func tree(kind int, text string, at int, kids ...api.Tree) api.Tree {
	return api.Tree{Kind: kind, Text: text, At: at, Kids: kids}
}

// copied returns a tree in new memory.
func copied(t api.Tree) api.Tree {
	t.Kids = slices.Clone(t.Kids)
	for i, k := range t.Kids {
		t.Kids[i] = copied(k)
	}
	return t
}

// change calls a function with each node of a tree, which may change it, each one before those below it.
func change(t *api.Tree, do func(*api.Tree)) {
	do(t)
	for i := range t.Kids {
		change(&t.Kids[i], do)
	}
}

// dice are numbers that look accidental and are the same in every run.
type dice struct{ state uint64 }

// roll returns a number from 0 to n-1.
func (d *dice) roll(n int) int {
	d.state = d.state*6364136223846793005 + 1442695040888963407
	return int(d.state>>33) % n
}

// pick returns one of some strings.
func (d *dice) pick(l ...string) string { return l[d.roll(len(l))] }

// text returns a Text, mostly one that is the same as others but for what is behind an "@", or that has two colons.
func (d *dice) text() string {
	return d.pick("x", "x@0", "x@1", "x@", "y", "y@0@1", "T", "T", "", "@0", "@", "p::R", "p::R", "p::R", "p::L", "p::S", "p::S", "q::S", "::", "p::", "::x", "p::R@0", "p:x", ":", "a:b:c", "$T", "int", "error")
}

// kind returns a Kind, mostly one that makes a difference below another one.
func (d *dice) kind(above int) int {
	if d.roll(4) > 0 {
		switch above {
		case api.KConst, api.KArg, api.KTypeOf:
			return api.KTypeOf
		case api.KFn, api.KType, api.KImpl, api.KSig:
			return []int{api.KParams, api.KArgs, api.KArgs, api.KTypeOf, api.KBlock, api.KFn, api.KName}[d.roll(7)]
		case api.KTrait:
			return []int{api.KSupers, api.KSupers, api.KSig, api.KSig, api.KFn}[d.roll(5)]
		case api.KParams:
			return api.KParam
		case api.KArgs:
			return []int{api.KArg, api.KArg, api.KArg, api.KName, api.KParam}[d.roll(5)]
		case api.KParam, api.KSupers:
			return api.KName
		}
	}
	if d.roll(3) > 0 {
		kinds := []int{api.KConst, api.KFn, api.KType, api.KTrait, api.KImpl, api.KSig, api.KParams, api.KParam, api.KArgs, api.KArg, api.KSupers, api.KTypeOf, api.KTypeOf, api.KName, api.KModule}
		return kinds[d.roll(len(kinds))]
	}
	return d.roll(44) - 2
}

// tree returns a tree with a Kind and at most so many levels.
func (d *dice) tree(kind, levels int) api.Tree {
	t := tree(kind, d.text(), d.roll(100)-10)
	if levels > 1 {
		for range d.roll(6) {
			t.Kids = append(t.Kids, d.tree(d.kind(kind), levels-1))
		}
	}
	return t
}

// definition returns a tree of a kind of which signatures are made, with Kids mostly as the parser makes them.
func (d *dice) definition() api.Tree {
	kinds := []int{api.KConst, api.KFn, api.KFn, api.KType, api.KType, api.KTrait, api.KSig, api.KSig, api.KMacro, api.KImpl, api.KImpl}
	t := d.tree(kinds[d.roll(len(kinds))], 2+d.roll(4))
	if t.Kind != api.KTrait && d.roll(2) == 0 {
		t.Kids = slices.Insert(t.Kids, 0, d.tree(api.KParams, 3), d.tree(api.KArgs, 4), d.tree(api.KTypeOf, 3))
	}
	return t
}

// known returns signatures of definitions, some of them of the same one.
func (d *dice) known() []api.Known {
	var out []api.Known
	for range d.roll(9) {
		x := api.Known{Def: d.pick("p::R", "p::L", "p::S", "q::S", "::", "::x", "p::", "x", "int"), Sig: api.Signature{Kind: []int{api.SigRecord, api.SigRecord, api.SigTrait, api.SigTrait, d.roll(9)}[d.roll(5)]}}
		x.Sig.Params = make([]api.Param, d.roll(4))
		x.Sig.Args = make([]api.Type, d.roll(4))
		out = append(out, x)
	}
	return out
}
