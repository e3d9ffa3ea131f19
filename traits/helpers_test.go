package traits_test

import (
	"fmt"
	"slices"
	"strconv"
	"strings"

	"recompile/api"
)

// ty returns a type with a Name and Args.
func ty(name string, args ...api.Type) api.Type { return api.Type{Name: name, Args: args} }

// of reads a type: "L<$T,int>". An empty Name stands as "_".
func of(text string) api.Type {
	t, rest := cut(text)
	if rest != "" {
		panic(text + " goes on with " + rest)
	}
	return t
}

// cut reads the type with which a text begins, and returns what is behind it.
func cut(text string) (api.Type, string) {
	end := strings.IndexAny(text+",", "<>,")
	t, rest := ty(strings.ReplaceAll(text[:end], "_", "")), text[end:]
	if !strings.HasPrefix(rest, "<") {
		return t, rest
	}
	for rest[0] != '>' {
		var k api.Type
		k, rest = cut(rest[1:])
		t.Args = append(t.Args, k)
	}
	return t, rest[1:]
}

// ofs reads types with blanks between them.
func ofs(text string) []api.Type {
	var out []api.Type
	for _, s := range strings.Fields(text) {
		out = append(out, of(s))
	}
	return out
}

// headers reads headers with semicolons between them: "T:Show U Show for P<$T,$U>" has the Params T, with the bound Show, and U. Their Defs are numbers.
func headers(text string) []api.Header {
	var out []api.Header
	for i, s := range split(text, ";") {
		words := strings.Fields(s)
		at := slices.Index(words, "for")
		h := api.Header{Def: strconv.Itoa(i), Trait: words[at-1], Type: of(words[at+1])}
		for _, w := range words[:at-1] {
			name, bound, _ := strings.Cut(w, ":")
			h.Params = append(h.Params, api.Param{Name: name, Bound: bound})
		}
		out = append(out, h)
	}
	return out
}

// split returns the parts of a text that is not empty.
func split(text, by string) []string {
	if text == "" {
		return nil
	}
	return strings.Split(text, by)
}

// supers reads supertraits: "Show>Eq Ord>Eq".
func supers(text string) []api.Super {
	var out []api.Super
	for _, s := range strings.Fields(text) {
		trait, above, _ := strings.Cut(s, ">")
		out = append(out, api.Super{Trait: trait, Above: above})
	}
	return out
}

// goal reads a goal: "Show L<int>".
func goal(text string) api.Goal {
	trait, t, _ := strings.Cut(text, " ")
	return api.Goal{Trait: trait, Type: of(t)}
}

// show writes a type with each Name in quotes, so that no two types look the same.
func show(t api.Type) string {
	s := strconv.Quote(t.Name)
	if len(t.Args) == 0 {
		return s
	}
	return s + "<" + shows(t.Args) + ">"
}

func shows(l []api.Type) string {
	var out []string
	for _, t := range l {
		out = append(out, show(t))
	}
	return strings.Join(out, " ")
}

// equal says in another way what types.Same does.
func equal(a, b api.Type) bool { return show(a) == show(b) }

// showGoals writes goals so that no two lists look the same.
func showGoals(l []api.Goal) string {
	var out []string
	for _, g := range l {
		out = append(out, strconv.Quote(g.Trait)+" "+show(g.Type))
	}
	return strings.Join(out, ", ")
}

// goals reads goals with commas and blanks between them: "Show int, Eq L<int>".
func goals(text string) []api.Goal {
	var out []api.Goal
	for _, s := range split(text, ", ") {
		out = append(out, goal(s))
	}
	return out
}

func showHeaders(l []api.Header) string {
	var out []string
	for _, h := range l {
		out = append(out, fmt.Sprintf("%q %q %q for %s", h.Def, h.Params, h.Trait, show(h.Type)))
	}
	return strings.Join(out, "; ")
}

// showDiags writes diagnostics, as "13@3 m, 13@9 n".
func showDiags(l []api.Diag) string {
	var out []string
	for _, d := range l {
		out = append(out, strconv.Itoa(d.Code)+"@"+strconv.Itoa(d.Node)+" "+d.Text)
	}
	return strings.Join(out, ", ")
}

func tree(kind int, text string, at int, kids ...api.Tree) api.Tree {
	return api.Tree{Kind: kind, Text: text, At: at, Kids: kids}
}

// typeTree returns the tree of a type.
func typeTree(t api.Type) api.Tree {
	out := tree(api.KTypeOf, t.Name, 0)
	for _, k := range t.Args {
		out.Kids = append(out.Kids, typeTree(k))
	}
	return out
}

// function reads a function with the types of its arguments and its result: "show(int,$T)bool".
func function(text string, at int) api.Tree {
	name, rest, _ := strings.Cut(text, "(")
	args, result, _ := strings.Cut(rest, ")")
	list := tree(api.KArgs, "", 0)
	for i, x := range ofs(strings.ReplaceAll(args, "+", " ")) {
		list.Kids = append(list.Kids, tree(api.KArg, "x@"+strconv.Itoa(i), 0, typeTree(x)))
	}
	return tree(api.KFn, name, at, tree(api.KParams, "", 0), list, typeTree(of(result)), tree(api.KBlock, "", 0))
}

// impl reads an implementation from its functions with blanks between them: "show(L<$T>+int)bool eq(int)int". Its At is 7, those of the functions are 10, 20 and so on.
func impl(text string) api.Tree {
	t := tree(api.KImpl, "p::S", 7, tree(api.KParams, "", 8), tree(api.KTypeOf, "int", 9))
	for i, s := range strings.Fields(text) {
		t.Kids = append(t.Kids, function(s, 10*(i+1)))
	}
	return t
}

// methods reads the signatures of methods, like the functions of an implementation.
func methods(text string) []api.Known {
	var out []api.Known
	for _, s := range strings.Fields(text) {
		name, rest, _ := strings.Cut(s, "(")
		args, result, _ := strings.Cut(rest, ")")
		x := api.Known{Def: name, Sig: api.Signature{Kind: api.SigMethod, Params: []api.Param{{Name: "Self", Bound: "p::S"}}, Result: of(result), Trait: "p::S"}}
		x.Sig.Args = ofs(strings.ReplaceAll(args, "+", " "))
		out = append(out, x)
	}
	return out
}

// nodes returns all nodes of a type.
func nodes(t api.Type) []api.Type {
	out := []api.Type{t}
	for i := 0; i < len(out); i++ {
		out = append(out, out[i].Args...)
	}
	return out
}

// deep returns a type with n levels of L around another one.
func deep(n int, t api.Type) api.Type {
	for range n {
		t = ty("L", t)
	}
	return t
}

// small returns the types with at most n nodes that have some Names without Args, L with one, and P with two.
func small(n int, leaves ...string) []api.Type {
	var sized func(n int) []api.Type
	sized = func(n int) []api.Type {
		var out []api.Type
		if n == 1 {
			for _, name := range leaves {
				out = append(out, ty(name))
			}
			return out
		}
		for _, k := range sized(n - 1) {
			out = append(out, ty("L", k))
		}
		for left := 1; left < n-1; left++ {
			for _, a := range sized(left) {
				for _, b := range sized(n - 1 - left) {
					out = append(out, ty("P", a, b))
				}
			}
		}
		return out
	}
	var out []api.Type
	for i := range n {
		out = append(out, sized(i+1)...)
	}
	return out
}

// dice are numbers that look accidental and are the same in every run.
type dice struct{ state uint64 }

// roll returns a number from 0 to n-1.
func (d *dice) roll(n int) int {
	d.state = d.state*6364136223846793005 + 1442695040888963407
	return int(d.state>>33) % n
}

// pick returns one of some strings.
func (d *dice) pick(l ...string) string { return l[d.roll(len(l))] }

// typeOf returns a type of at most some levels, whose nodes without Args have some of these Names.
func (d *dice) typeOf(levels int, leaves ...string) api.Type {
	if levels <= 1 || d.roll(3) == 0 {
		return ty(d.pick(leaves...))
	}
	t := ty(d.pick("L", "P"))
	if d.roll(16) == 0 {
		t.Name = d.pick(leaves...)
	}
	for range 1 + d.roll(2) {
		t.Args = append(t.Args, d.typeOf(levels-1, leaves...))
	}
	return t
}

// header returns a header of one of these traits; its Params are mostly those of its Type.
func (d *dice) header(traits ...string) api.Header {
	h := api.Header{Def: "p::impl", Trait: d.pick(traits...), Type: d.typeOf(1+d.roll(3), "$T", "$U", "$V", "int", "bool", "$T", "$U")}
	if d.roll(12) == 0 {
		h.Type = d.typeOf(2, "$T", "error", "", "$", "?0", "$T")
	}
	for range d.roll(4) {
		h.Params = append(h.Params, api.Param{Name: d.pick("T", "U", "V", "T", "X", ""), Bound: d.pick(append(traits, "")...)})
	}
	return h
}

// headers returns up to n headers.
func (d *dice) headers(n int, traits ...string) []api.Header {
	var out []api.Header
	for range d.roll(n + 1) {
		out = append(out, d.header(traits...))
	}
	return out
}

// supers returns up to n supertraits.
func (d *dice) supers(n int, traits ...string) []api.Super {
	var out []api.Super
	for range d.roll(n + 1) {
		out = append(out, api.Super{Trait: d.pick(traits...), Above: d.pick(traits...)})
	}
	return out
}
