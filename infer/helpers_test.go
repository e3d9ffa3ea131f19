package infer_test

import (
	"fmt"
	"slices"
	"strconv"
	"strings"
	"testing"

	"recompile/api"
	"recompile/infer"
	"recompile/modules"
	"recompile/parser"
	"recompile/resolve"
	"recompile/shape"
	"recompile/signature"
)

// words are the names of the kinds of nodes in the trees of these tests.
var words = map[int]string{
	0: "zero", api.KUse: "use", api.KPubUse: "pubuse", api.KConst: "const", api.KFn: "fn", api.KType: "record", api.KTrait: "trait", api.KImpl: "impl", api.KMacro: "macro", api.KSig: "sig",
	api.KParams: "params", api.KParam: "param", api.KArgs: "args", api.KArg: "arg", api.KSupers: "supers", api.KTypeOf: "type", api.KInt: "int", api.KBool: "bool", api.KName: "name",
	api.KCall: "call", api.KExpand: "expand", api.KNew: "new", api.KDot: "dot", api.KUnary: "unary", api.KBinary: "binary", api.KIf: "if", api.KBlock: "block", api.KUnit: "unit",
	api.KLet: "let", api.KAssign: "assign", api.KWhile: "while", api.KPrint: "print", api.KDo: "do", api.KLocal: "local", api.KGlobal: "global", api.KBad: "bad", api.KModule: "module",
}

// of reads a tree, as "call p::f(local x@0, binary +(int 1, int 2))". The places are the numbers of the nodes.
func of(text string) api.Tree {
	t, rest := cut(text)
	if rest != "" {
		panic(text + " goes on with " + rest)
	}
	return shape.Number(t)
}

// cut reads the tree with which a text begins, and returns what is behind it.
func cut(text string) (api.Tree, string) {
	end := strings.IndexAny(text+",", "(),")
	word, name, _ := strings.Cut(text[:end], " ")
	t, rest := api.Tree{Kind: -1, Text: name}, text[end:]
	for kind, w := range words {
		if w == word {
			t.Kind = kind
		}
	}
	if t.Kind < 0 {
		panic("no kind: " + word)
	}
	if !strings.HasPrefix(rest, "(") {
		return t, rest
	}
	for rest[0] != ')' {
		var k api.Tree
		k, rest = cut(strings.TrimLeft(rest[1:], " "))
		t.Kids = append(t.Kids, k)
	}
	return t, rest[1:]
}

// show writes a tree without its places, as of reads it.
func show(t api.Tree) string {
	s, ok := words[t.Kind]
	if !ok {
		s = strconv.Itoa(t.Kind)
	}
	if t.Text != "" {
		s += " " + t.Text
	}
	var kids []string
	for _, k := range t.Kids {
		kids = append(kids, show(k))
	}
	if kids == nil {
		return s
	}
	return s + "(" + strings.Join(kids, ", ") + ")"
}

// exact writes a tree so that no two that differ look the same.
func exact(t api.Tree) string {
	s := fmt.Sprintf("%d %q %d(", t.Kind, t.Text, t.At)
	for _, k := range t.Kids {
		s += exact(k)
	}
	return s + ")"
}

func ty(name string, args ...api.Type) api.Type { return api.Type{Name: name, Args: args} }

// typed reads a type: "L<$T,int>". An empty Name stands as "_".
func typed(text string) api.Type {
	t, rest := cutType(text)
	if rest != "" {
		panic(text + " goes on with " + rest)
	}
	return t
}

func cutType(text string) (api.Type, string) {
	end := strings.IndexAny(text+",", "<>,")
	t, rest := ty(strings.ReplaceAll(text[:end], "_", "")), text[end:]
	if !strings.HasPrefix(rest, "<") {
		return t, rest
	}
	for rest[0] != '>' {
		var k api.Type
		k, rest = cutType(rest[1:])
		t.Args = append(t.Args, k)
	}
	return t, rest[1:]
}

// exactType writes a type with each Name in quotes, so that no two types look the same.
func exactType(t api.Type) string {
	s := strconv.Quote(t.Name) + "<"
	for _, k := range t.Args {
		s += exactType(k)
	}
	return s + ">"
}

// kinds are the words for the kinds of signatures in these tests.
func kinds() map[string]int {
	return map[string]int{"none": 0, "const": api.SigConst, "fn": api.SigFn, "record": api.SigRecord, "trait": api.SigTrait, "method": api.SigMethod, "macro": api.SigMacro, "impl": api.SigImpl}
}

// known reads definitions with their signatures, with semicolons between them: "p::c const = int; p::f fn T:p::S U | $T L<$U> = int; p::R record T | a:$T b:int = p::R<$T>".
func known(text string) []api.Known {
	var out []api.Known
	for _, s := range strings.Split(text, ";") {
		if strings.TrimSpace(s) == "" {
			continue
		}
		s, result, _ := strings.Cut(s, "=")
		s, args, _ := strings.Cut(s, "|")
		f := strings.Fields(s)
		x := api.Known{Def: f[0], Sig: api.Signature{Kind: kinds()[f[1]], Result: typed(strings.TrimSpace(result))}}
		for _, p := range f[2:] {
			name, bound, _ := strings.Cut(p, ":")
			x.Sig.Params = append(x.Sig.Params, api.Param{Name: strings.ReplaceAll(name, "_", ""), Bound: bound})
		}
		for _, a := range strings.Fields(args) {
			if name, t, ok := strings.Cut(a, ":"); ok && x.Sig.Kind == api.SigRecord {
				x.Sig.Names = append(x.Sig.Names, name)
				a = t
			}
			x.Sig.Args = append(x.Sig.Args, typed(a))
		}
		out = append(out, x)
	}
	return out
}

// showDiags writes diagnostics, as "9@3, 8@9 p::f".
func showDiags(l []api.Diag) string {
	var out []string
	for _, d := range l {
		out = append(out, strings.TrimSpace(strconv.Itoa(d.Code)+"@"+strconv.Itoa(d.Node)+" "+d.Text))
	}
	return strings.Join(out, ", ")
}

func showType(t api.Type) string {
	var args []string
	for _, k := range t.Args {
		args = append(args, showType(k))
	}
	if args == nil {
		return t.Name
	}
	return t.Name + "<" + strings.Join(args, ",") + ">"
}

// showGoals writes the goals of a definition, as "p::S int@5, p::R $p::S@9".
func showGoals(x api.Inferred) string {
	var out []string
	for i, g := range x.Goals {
		at := "?"
		if i < len(x.At) {
			at = strconv.Itoa(x.At[i])
		}
		out = append(out, g.Trait+" "+showType(g.Type)+"@"+at)
	}
	if len(x.At) > len(x.Goals) {
		out = append(out, "and more places")
	}
	return strings.Join(out, ", ")
}

// exactInferred writes what Body returns so that no two results that differ look the same.
func exactInferred(x api.Inferred) string {
	s := exact(x.Tree) + fmt.Sprint(x.At)
	for _, d := range x.Diags {
		s += fmt.Sprintf(" %d %d %q", d.Code, d.Node, d.Text)
	}
	for _, g := range x.Goals {
		s += fmt.Sprintf(" %q %s", g.Trait, exactType(g.Type))
	}
	return s
}

// checkBody tests what Body makes of a definition: its last Kid, the diagnostics, and the goals. All else stays.
func checkBody(t *testing.T, in api.Tree, l []api.Known, want, diags, goals string) {
	t.Helper()
	got := infer.Body(in, l)
	last := len(in.Kids) - 1
	if len(got.Tree.Kids) != len(in.Kids) {
		t.Fatalf("%s became %s", show(in), show(got.Tree))
	}
	if show(got.Tree.Kids[last]) != want || showDiags(got.Diags) != diags || showGoals(got) != goals {
		t.Errorf("%s became\n%s, with %s, goals %s\nwanted:\n%s, with %s, goals %s", show(in), show(got.Tree.Kids[last]), showDiags(got.Diags), showGoals(got), want, diags, goals)
	}
	got.Tree.Kids[last] = in.Kids[last]
	if exact(got.Tree) != exact(in) {
		t.Errorf("%s: what is not its last Kid became %s", show(in), show(got.Tree))
	}
	if places(infer.Body(in, l).Tree) != places(in) {
		t.Errorf("%s: places have changed", show(in))
	}
}

// places writes the shape of a tree with the places of its nodes.
func places(t api.Tree) string {
	s := strconv.Itoa(t.At) + "("
	for _, k := range t.Kids {
		s += places(k)
	}
	return s + ")"
}

// constant returns a KConst of a type with a value; the places are the numbers of the nodes. Those of the value begin with 2, if the type has one node.
func constant(result, value string) api.Tree {
	return of("const k(" + typeText(result) + ", " + value + ")")
}

// typeText writes a type as the text of a KTypeOf.
func typeText(text string) string {
	var write func(t api.Type) string
	write = func(t api.Type) string {
		var args []string
		for _, k := range t.Args {
			args = append(args, write(k))
		}
		if args == nil {
			return "type " + t.Name
		}
		return "type " + t.Name + "(" + strings.Join(args, ", ") + ")"
	}
	return write(typed(text))
}

// function returns a KFn with type parameters "T:p::S U", arguments "x@0:int y@1:L<$T>", a result and a body.
func function(params, args, result, body string) api.Tree {
	var ps, as []string
	for _, p := range strings.Fields(params) {
		name, bound, ok := strings.Cut(p, ":")
		if ok {
			name += "(name " + bound + ")"
		}
		ps = append(ps, "param "+name)
	}
	for _, a := range strings.Fields(args) {
		name, x, _ := strings.Cut(a, ":")
		as = append(as, "arg "+name+"("+typeText(x)+")")
	}
	return of("fn f(" + list("params", ps) + ", " + list("args", as) + ", " + typeText(result) + ", " + body + ")")
}

func list(word string, l []string) string {
	if l == nil {
		return word
	}
	return word + "(" + strings.Join(l, ", ") + ")"
}

// program is a module p after name resolution.
type program struct {
	names []string
	trees map[string]api.Tree
	known []api.Known
}

// compile returns the module p with a text.
func compile(t *testing.T, text string) program {
	t.Helper()
	items, errors := parser.Module(text)
	if len(errors) > 0 {
		t.Fatalf("%s has errors at %v", text, errors)
	}
	p := program{names: modules.Names(items), trees: map[string]api.Tree{}}
	binds := modules.Step("p", p.names, nil)
	for _, name := range p.names {
		def, _ := modules.Item(items, name)
		p.trees[name] = resolve.Resolve(shape.Number(def), binds).Tree
		p.known = append(p.known, api.Known{Def: "p::" + name, Sig: signature.Of("p::"+name, p.trees[name])})
	}
	return p
}

// body returns what Body makes of a definition of a program.
func (p program) body(name string) api.Inferred { return infer.Body(p.trees[name], p.known) }

// copied returns a tree in new memory.
func copied(t api.Tree) api.Tree {
	t.Kids = slices.Clone(t.Kids)
	for i, k := range t.Kids {
		t.Kids[i] = copied(k)
	}
	return t
}

// change calls a function with each node of a tree, which may change it, each one before those below it.
func change(t *api.Tree, do func(*api.Tree)) {
	do(t)
	for i := range t.Kids {
		change(&t.Kids[i], do)
	}
}

// dice are numbers that look accidental and are the same in every run.
type dice struct{ state uint64 }

// roll returns a number from 0 to n-1.
func (d *dice) roll(n int) int {
	d.state = d.state*6364136223846793005 + 1442695040888963407
	return int(d.state>>33) % n
}

// pick returns one of some strings.
func (d *dice) pick(l ...string) string { return l[d.roll(len(l))] }
