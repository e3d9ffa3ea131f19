package resolve_test

import (
	"slices"
	"strconv"
	"strings"
	"testing"

	"recompile/api"
	"recompile/resolve"
)

// This is a second reading of the chapter for trees as lists, in which each name looks for its binder. The layer is compared with it.

// node is a node of a tree; those below it come behind it, with a greater depth. Its parent is the node with the index up.
type node struct {
	kind          int
	text          string
	at, depth, up int
}

// flat returns the nodes of a tree in the order of their numbers; its root has a depth and a parent.
func flat(t api.Tree, depth, up int) []node {
	return flatFrom(nil, t, depth, up)
}

func flatFrom(l []node, t api.Tree, depth, up int) []node {
	self := len(l)
	l = append(l, node{t.Kind, t.Text, t.At, depth, up})
	for _, k := range t.Kids {
		l = flatFrom(l, k, depth+1, self)
	}
	return l
}

// end returns the index behind the node i and all below it.
func end(l []node, i int) int {
	for k := i + 1; k < len(l); k++ {
		if l[k].depth <= l[i].depth {
			return k
		}
	}
	return len(l)
}

// kindOf returns the kind of a node, -1000 if there is none.
func kindOf(l []node, i int) int {
	if i < 0 {
		return -1000
	}
	return l[i].kind
}

// above returns the parent of a node, -1 if there is none.
func above(l []node, i int) int {
	if i < 0 {
		return -1
	}
	return l[i].up
}

func isArgOfFn(l []node, i int) bool {
	args := above(l, i)
	return kindOf(l, i) == api.KArg && kindOf(l, args) == api.KArgs && kindOf(l, above(l, args)) == api.KFn
}

// reading is what is made of a list.
type reading struct {
	in      []node
	binds   []api.Bind
	binders []int // their indices
	out     []node
	diags   []api.Diag
}

// isKnown reports whether a binder is known at a node behind it.
func (r *reading) isKnown(binder, at int) bool {
	if r.in[binder].kind == api.KLet {
		home := r.in[binder].up
		return kindOf(r.in, home) == api.KBlock && at >= end(r.in, binder) && at < end(r.in, home)
	}
	home := above(r.in, above(r.in, binder))
	for k := binder + 1; k < at; k++ {
		if r.in[k].up == home && r.in[k].kind == api.KBlock && at < end(r.in, k) {
			return true
		}
	}
	return false
}

// variableOf returns the variable that a name is at a node, "" if there is none.
func (r *reading) variableOf(text string, at int) string {
	found := ""
	for number, b := range r.binders {
		if r.in[b].text == text && b < at && r.isKnown(b, at) {
			found = text + "@" + strconv.Itoa(number)
		}
	}
	return found
}

// lookFor returns what Lookup finds, or a code.
func (r *reading) lookFor(text string) (string, int) {
	var defs []string
	for _, b := range r.binds {
		if b.Name == text && !slices.Contains(defs, b.Def) {
			defs = append(defs, b.Def)
		}
	}
	switch len(defs) {
	case 0:
		return text, api.CodeUnresolved
	case 1:
		return defs[0], 0
	}
	return text, api.CodeAmbiguous
}

// definitionOf returns what a name is that is no variable, or a code.
func (r *reading) definitionOf(text string) (string, int) {
	switch strings.Index(text, "::") {
	case -1:
		return r.lookFor(text)
	case 0:
		return text, api.CodeUnresolved
	}
	return text, 0
}

// isTypeParam reports whether a KTypeOf with this Text is a type parameter if it has no Kids.
func (r *reading) isTypeParam(text string, at int) bool {
	for up := r.in[at].up; up >= 0; up = r.in[up].up {
		if text == "Self" && r.in[up].kind == api.KSig {
			return true
		}
	}
	for _, n := range r.in {
		if n.kind == api.KParam && n.up == 1 && r.in[1].kind == api.KParams && n.text == text {
			return true
		}
	}
	return false
}

// namesTrait reports whether a KName can be no variable.
func (r *reading) namesTrait(at int) bool {
	switch up := r.in[at].up; kindOf(r.in, up) {
	case api.KSupers, api.KParam:
		return true
	case api.KSig:
		return end(r.in, at) == end(r.in, up)
	}
	return false
}

// resolved returns what a node becomes, and a code.
func (r *reading) resolved(i int) (node, int) {
	n, code := r.in[i], 0
	variable := r.variableOf(n.text, i)
	switch {
	case n.kind == api.KTypeOf && end(r.in, i) == i+1 && slices.Contains([]string{"int", "bool", "unit"}, n.text):
	case n.kind == api.KTypeOf && end(r.in, i) == i+1 && r.isTypeParam(n.text, i):
		n.text = "$" + n.text
	case n.kind == api.KTypeOf:
		if n.text, code = r.lookFor(n.text); code != 0 {
			n.text = "error"
		}
	case n.kind == api.KName && r.namesTrait(i), n.kind == api.KImpl:
		n.text, code = r.lookFor(n.text)
	case n.kind == api.KLet, isArgOfFn(r.in, i):
		n.text += "@" + strconv.Itoa(slices.Index(r.binders, i))
	case n.kind == api.KAssign && variable != "":
		n.text = variable
	case n.kind == api.KAssign:
		n.kind, n.text, code = api.KDo, "", api.CodeUnresolved
	case n.kind == api.KName && variable != "":
		n.kind, n.text = api.KLocal, variable
	case n.kind == api.KName, n.kind == api.KCall, n.kind == api.KNew:
		if n.text, code = r.definitionOf(n.text); code != 0 {
			n.kind = api.KBad
		} else if n.kind == api.KName {
			n.kind = api.KGlobal
		}
	case n.kind == api.KExpand:
		n.kind, code = api.KBad, api.CodeMacro
	}
	return n, code
}

// read makes the second reading of a tree.
func read(t api.Tree, b []api.Bind) *reading {
	r := &reading{in: flat(t, 0, -1), binds: b}
	for i := 0; i < len(r.in); {
		n := r.in[i]
		if n.kind == api.KMacro {
			r.out = append(r.out, r.in[i:end(r.in, i)]...)
			i = end(r.in, i)
			continue
		}
		if n.kind == api.KLet || isArgOfFn(r.in, i) {
			r.binders = append(r.binders, i)
		}
		out, code := r.resolved(i)
		r.out = append(r.out, out)
		if code != 0 {
			r.diags = append(r.diags, api.Diag{Code: code, Node: n.at, Text: n.text})
		}
		if n.kind == api.KTypeOf && code != 0 {
			i = end(r.in, i)
		} else {
			i++
		}
	}
	return r
}

// compare compares Resolve with the second reading, which it returns.
func compare(t *testing.T, in api.Tree, b []api.Bind) *reading {
	t.Helper()
	r := read(in, b)
	got := resolve.Resolve(in, b)
	equal := slices.EqualFunc(flat(got.Tree, 0, -1), r.out, func(a, b node) bool {
		return a.kind == b.kind && a.text == b.text && a.at == b.at && a.depth == b.depth
	})
	if !equal || !slices.Equal(got.Diags, r.diags) {
		t.Fatalf("%s with %q became %s, with %s\nwanted %v, with %s", show(in), b, show(got.Tree), showDiags(got.Diags), r.out, showDiags(r.diags))
	}
	return r
}

// sized returns the trees with n nodes that have one of these Kinds and Texts.
func sized(n int, roots []api.Tree) []api.Tree {
	var out []api.Tree
	for _, kids := range forests(n-1, roots) {
		for _, r := range roots {
			out = append(out, tree(r.Kind, r.Text, n, kids...))
		}
	}
	return out
}

// forests returns the lists of trees with n nodes.
func forests(n int, roots []api.Tree) [][]api.Tree {
	if n == 0 {
		return [][]api.Tree{nil}
	}
	var out [][]api.Tree
	for size := 1; size <= n; size++ {
		for _, first := range sized(size, roots) {
			for _, rest := range forests(n-size, roots) {
				out = append(out, append([]api.Tree{first}, rest...))
			}
		}
	}
	return out
}

func compareAll(t *testing.T, most int, b []api.Bind, roots ...api.Tree) int {
	t.Helper()
	count := 0
	for n := 1; n <= most; n++ {
		for _, in := range sized(n, roots) {
			compare(t, in, b)
			count++
		}
	}
	return count
}

func TestAllSmallTreesOfVariables(t *testing.T) {
	x := tree(api.KArg, "x", 0)
	if n := compareAll(t, 5, nil, fn(), args(), x, block(), let("x"), name("x")); n != 6+36+2*216+5*1296+14*7776 {
		t.Errorf("there are %d trees", n)
	}
	if n := compareAll(t, 6, nil, block(), let("x"), name("x")); n != 3+9+2*27+5*81+14*243+42*729 {
		t.Errorf("there are %d trees", n)
	}
	if n := compareAll(t, 5, binds("x=p::x"), block(), let("x"), let("y"), tree(api.KAssign, "x", 0), tree(api.KCall, "x", 0)); n != 5+25+2*125+5*625+14*3125 {
		t.Errorf("there are %d trees", n)
	}
	// functions with lists of arguments and blocks that are small
	in := fn()
	var kids []api.Tree
	for n := 1; n <= 3; n++ {
		for _, k := range sized(n, []api.Tree{block(), let("x"), name("x")}) {
			if n < 3 || k.Kind == api.KBlock {
				kids = append(kids, k)
			}
		}
	}
	kids = append(kids, args("x"), args("y", "x"), args("x", "x"), args())
	for _, first := range kids {
		for _, second := range kids {
			for _, third := range kids {
				in.Kids = []api.Tree{first, second, third}
				compare(t, in, nil)
			}
		}
	}
}

func TestAllSmallTreesOfTypes(t *testing.T) {
	param, sig, macro := tree(api.KParam, "T", 0), tree(api.KSig, "T", 0), tree(api.KMacro, "T", 0)
	for _, b := range []string{"", "T=p::T", "T=p::T,T=q::T,Self=p::Self"} {
		if n := compareAll(t, 4, binds(b), fn(), params(), param, sig, typeOf("T"), typeOf("Self"), name("T"), macro); n != 8+64+2*512+5*4096 {
			t.Errorf("there are %d trees", n)
		}
		compareAll(t, 5, binds(b), params(), param, sig, typeOf("T"), typeOf("Self"))
		compareAll(t, 4, binds(b), tree(api.KSupers, "", 0), tree(api.KImpl, "T", 0), sig, param, name("T"), let("T"), block(), typeOf("T"))
	}
}

func (d *dice) text() string {
	return d.pick("x", "x", "x", "x", "x", "x", "y", "y", "z", "T", "T", "U", "Self", "int", "bool", "unit", "p::x", "::x", "::", "", "a:b", "p::", "x#1", "x@0", "error")
}

func (d *dice) kind() int {
	if d.roll(4) == 0 {
		return d.roll(43) - 1
	}
	kinds := []int{
		api.KFn, api.KFn, api.KParams, api.KParam, api.KArgs, api.KArgs, api.KArg, api.KArg, api.KArg, api.KBlock, api.KBlock, api.KBlock, api.KBlock, api.KLet, api.KLet, api.KLet, api.KName, api.KName,
		api.KName, api.KName, api.KAssign, api.KAssign, api.KCall, api.KNew, api.KTypeOf, api.KTypeOf, api.KSig, api.KSupers, api.KImpl, api.KMacro, api.KExpand, api.KIf,
	}
	return kinds[d.roll(len(kinds))]
}

// kindBelow returns mostly a kind that makes a difference below another one.
func (d *dice) kindBelow(kind int) int {
	if d.roll(3) > 0 {
		switch kind {
		case api.KFn:
			return []int{api.KArgs, api.KBlock, api.KParams}[d.roll(3)]
		case api.KArgs:
			return api.KArg
		case api.KParams:
			return api.KParam
		case api.KSupers, api.KParam:
			return api.KName
		case api.KSig:
			return []int{api.KArgs, api.KTypeOf, api.KTypeOf, api.KName}[d.roll(4)]
		case api.KBlock:
			return []int{api.KLet, api.KName, api.KAssign, api.KFn, api.KBlock}[d.roll(5)]
		}
	}
	return d.kind()
}

// tree returns a tree with a kind and at most this depth.
func (d *dice) tree(kind, depth int) api.Tree {
	t := tree(kind, d.text(), d.roll(100)-10)
	if kind == api.KTypeOf && d.roll(2) == 0 {
		t.Text = d.pick("T", "U", "Self", "x")
	}
	if depth > 1 {
		for range d.roll(5) {
			t.Kids = append(t.Kids, d.tree(d.kindBelow(kind), depth-1))
		}
	}
	return t
}

func (d *dice) binds() []api.Bind {
	var out []api.Bind
	for range d.roll(14) {
		out = append(out, api.Bind{Name: d.text(), Def: d.pick("p::x", "q::x", "p::T", "x", "", "::x", "int")})
	}
	return out
}

func TestGeneratedTrees(t *testing.T) {
	d := &dice{8}
	seen := map[string]int{}
	for range 30000 {
		r := compare(t, d.tree([]int{api.KModule, api.KFn, api.KBlock, d.kind()}[d.roll(4)], 3+d.roll(4)), d.binds())
		for _, n := range r.out {
			if n.kind == api.KLocal || n.kind == api.KAssign && strings.Contains(n.text, "@") {
				seen["variables"]++
			}
			if n.kind == api.KGlobal || n.kind == api.KCall {
				seen["definitions"]++
			}
			if n.kind == api.KTypeOf && strings.HasPrefix(n.text, "$") {
				seen["parameters"]++
			}
		}
		for _, x := range r.diags {
			seen[strconv.Itoa(x.Code)]++
		}
	}
	for _, what := range []string{"variables", "definitions", "parameters", "4", "5", "6"} {
		if seen[what] < 500 {
			t.Errorf("of %s there are only %d", what, seen[what])
		}
	}
}

// Trees whose first Kid is a KParams, and in which names are mostly known.
func TestGeneratedDefinitions(t *testing.T) {
	d := &dice{81}
	for range 20000 {
		in := d.tree(api.KFn, 3+d.roll(3))
		in.Kids = slices.Insert(in.Kids, 0, params("T", d.text()), args("x", d.text()))
		compare(t, in, append(d.binds(), binds("U=p::U,z=p::z")...))
	}
}

func TestGeneratedVariables(t *testing.T) {
	d := &dice{88}
	for range 8000 {
		compare(t, d.dense(6), nil)
	}
}
