package infer_test

import (
	"cmp"
	"slices"
	"strconv"
	"strings"
	"testing"

	"recompile/api"
	"recompile/infer"
	"recompile/signature"
	"recompile/types"
)

// This is a second reading of the chapter, in which the nodes are a list, and all equations are solved from the first one on whenever something depends on the solution. The layer is compared with it.

// part is a node in the list of all nodes, whose index is its number.
type part struct {
	tree *api.Tree
	kids []int
	end  int // the greatest number in it
}

// reading is a definition that is being read.
type reading struct {
	parts  []part
	l      []api.Known
	kept   []api.Equation
	names  []string // the variables of the program, the last one that is known last
	are    []api.Type
	fresh  int
	params map[int][]api.Type // by the numbers of nodes
	out    api.Inferred
}

// list adds a node with all below it, and returns its number.
func (r *reading) list(t *api.Tree) int {
	number := len(r.parts)
	r.parts = append(r.parts, part{tree: t})
	var kids []int
	for i := range t.Kids {
		kids = append(kids, r.list(&t.Kids[i]))
	}
	r.parts[number].kids, r.parts[number].end = kids, len(r.parts)-1
	return number
}

// order returns the numbers from one on in the order in which nodes are visited: those that end first, and of those that end together the ones with greater numbers.
func (r *reading) order(from int) []int {
	var out []int
	for n := from; n < len(r.parts); n++ {
		out = append(out, n)
	}
	slices.SortFunc(out, func(a, b int) int { return cmp.Or(cmp.Compare(r.parts[a].end, r.parts[b].end), cmp.Compare(b, a)) })
	return out
}

func (r *reading) signature(def string) api.Signature {
	i := slices.IndexFunc(r.l, func(k api.Known) bool { return k.Def == def })
	if i < 0 {
		return api.Signature{}
	}
	return r.l[i].Sig
}

// read says in another way what Body returns.
func read(t api.Tree, l []api.Known) api.Inferred {
	r := &reading{l: l, params: map[int][]api.Type{}}
	r.out.Tree = copied(t)
	if !slices.Contains([]int{api.KFn, api.KConst}, t.Kind) || len(t.Kids) < 2 {
		return r.out
	}
	r.list(&r.out.Tree)
	r.fresh = len(r.parts)
	if t.Kind == api.KFn {
		r.arguments(t)
	}
	last := r.parts[0].kids[len(t.Kids)-1]
	for _, n := range r.order(last) {
		r.visit(n)
	}
	own := signature.Of("", t)
	r.say(r.parts[last].tree.At, v(last), own.Result)
	r.close(own)
	return r.out
}

func v(number int) api.Type { return ty("?" + strconv.Itoa(number)) }

func (r *reading) arguments(t api.Tree) {
	for _, args := range t.Kids {
		for _, k := range args.Kids {
			if args.Kind == api.KArgs && k.Kind == api.KArg {
				r.names = append(r.names, k.Text)
				r.are = append(r.are, signature.Type(append(k.Kids, api.Tree{})[0]))
			}
		}
	}
}

// say adds an equation at a place.
func (r *reading) say(at int, a, b api.Type) {
	all := append(slices.Clone(r.kept), api.Equation{A: a, B: b})
	if _, dropped := types.Solve(all); len(dropped) > 0 {
		r.out.Diags = append(r.out.Diags, api.Diag{Code: api.CodeType, Node: at})
		return
	}
	r.kept = all
}

// kid returns the type and the place of a Kid.
func (r *reading) kid(n, k int) (api.Type, int) {
	p := r.parts[n]
	if k >= 0 && k < len(p.kids) {
		return v(p.kids[k]), r.parts[p.kids[k]].tree.At
	}
	return ty("error"), p.tree.At
}

// sayKids adds equations for the first Kids, and one for the node itself.
func (r *reading) sayKids(n int, own api.Type, kids ...api.Type) {
	for k, t := range kids {
		x, at := r.kid(n, k)
		r.say(at, x, t)
	}
	r.say(r.parts[n].tree.At, v(n), own)
}

func (r *reading) variable(name string) (api.Type, bool) {
	for i := len(r.names) - 1; i >= 0; i-- {
		if r.names[i] == name {
			return r.are[i], true
		}
	}
	return ty("error"), false
}

// fail makes a node one with a diagnostic.
func (r *reading) fail(n, code int) {
	t := r.parts[n].tree
	r.out.Diags = append(r.out.Diags, api.Diag{Code: code, Node: t.At, Text: t.Text})
	if t.Kind != api.KGlobal {
		t.Kind = api.KBad
	}
	r.sayKids(n, ty("error"))
}

// visit says of a node without signatures what the tables of the chapter say.
func (r *reading) visit(n int) {
	t := r.parts[n].tree
	number, truth, none := ty("int"), ty("bool"), ty("unit")
	one, at := r.kid(n, 1)
	switch t.Kind {
	case api.KGlobal, api.KCall, api.KNew:
		r.named(n)
	case api.KDot:
		r.dot(n)
	case api.KLocal:
		x, _ := r.variable(t.Text)
		r.sayKids(n, x)
	case api.KLet:
		if len(t.Kids) > 0 {
			r.names, r.are = append(r.names, t.Text), append(r.are, v(n+1))
		}
		r.sayKids(n, none)
	case api.KAssign:
		if x, ok := r.variable(t.Text); ok {
			r.sayKids(n, none, x)
		} else {
			r.sayKids(n, none)
		}
	case api.KIf:
		x, _ := r.kid(n, 0)
		y, yAt := r.kid(n, 2)
		if len(t.Kids) > 0 {
			at = t.Kids[0].At
		} else {
			at = t.At
		}
		r.say(at, x, truth)
		r.say(yAt, y, one)
		r.sayKids(n, one)
	case api.KBlock:
		x, _ := r.kid(n, len(t.Kids)-1)
		r.sayKids(n, x)
	case api.KInt:
		r.sayKids(n, number)
	case api.KBool:
		r.sayKids(n, truth)
	case api.KUnit, api.KDo:
		r.sayKids(n, none)
	case api.KWhile:
		r.sayKids(n, none, truth)
	case api.KPrint:
		r.sayKids(n, none, number)
	case api.KUnary:
		x := map[bool]api.Type{true: truth, false: number}[t.Text == "!"]
		r.sayKids(n, x, x)
	case api.KBinary:
		switch {
		case strings.Contains("&& ||", t.Text) && len(t.Text) == 2:
			r.sayKids(n, truth, truth, truth)
		case t.Text == "<" || t.Text == "==":
			r.sayKids(n, truth, number, number)
		default:
			r.sayKids(n, number, number, number)
		}
	default:
		r.sayKids(n, ty("error"))
	}
}

// named says what a node with a definition says.
func (r *reading) named(n int) {
	t := r.parts[n].tree
	x := r.signature(t.Text)
	fits := map[int][]int{api.KGlobal: {api.SigConst}, api.KCall: {api.SigFn, api.SigMethod}, api.KNew: {api.SigRecord}}[t.Kind]
	switch {
	case !slices.Contains(fits, x.Kind):
		r.fail(n, api.CodeKind)
		return
	case t.Kind == api.KGlobal:
		r.sayKids(n, x.Result)
		return
	case len(x.Args) != len(t.Kids):
		r.fail(n, api.CodeCount)
		return
	}
	with := map[string]api.Type{}
	r.params[n] = []api.Type{}
	for _, p := range x.Params {
		if _, twice := with["$"+p.Name]; !twice {
			with["$"+p.Name] = v(r.fresh)
		}
		if p.Bound != "" {
			r.out.Goals = append(r.out.Goals, api.Goal{Trait: p.Bound, Type: v(r.fresh)})
			r.out.At = append(r.out.At, t.At)
		}
		r.params[n] = append(r.params[n], v(r.fresh))
		r.fresh++
	}
	var args []api.Type
	for _, a := range x.Args {
		args = append(args, replaced(a, with))
	}
	r.sayKids(n, replaced(x.Result, with), args...)
}

// replaced returns a type with other types in the place of those with some Names, and without Args.
func replaced(t api.Type, with map[string]api.Type) api.Type {
	if x, ok := with[t.Name]; ok && len(t.Args) == 0 {
		return x
	}
	out := ty(t.Name)
	for _, k := range t.Args {
		out.Args = append(out.Args, replaced(k, with))
	}
	return out
}

func (r *reading) dot(n int) {
	s, _ := types.Solve(r.kept)
	x, _ := r.kid(n, 0)
	x = whole(s, x)
	t := r.parts[n].tree
	of := r.signature(x.Name)
	field := slices.Index(of.Names, t.Text)
	switch {
	case x.Name == "error":
		t.Kind = api.KBad
		r.sayKids(n, ty("error"))
		return
	case isVariable(x):
		r.fail(n, api.CodeOpen)
		return
	case of.Kind != api.SigRecord || field < 0:
		r.fail(n, api.CodeField)
		return
	}
	with := map[string]api.Type{}
	for i, p := range of.Params {
		if _, twice := with["$"+p.Name]; !twice && i < len(x.Args) {
			with["$"+p.Name] = x.Args[i]
		}
	}
	t.Text = strconv.Itoa(field)
	r.sayKids(n, replaced(append(slices.Clone(of.Args), slices.Repeat([]api.Type{ty("error")}, field+1)...)[field], with))
}

// whole applies a solution as chapter 9 defines it, however many nodes come of it.
func whole(s []api.Type, t api.Type) api.Type {
	if isVariable(t) {
		n, _ := strconv.Atoi(t.Name[1:])
		if n < len(s) && !equal(s[n], api.Type{}) {
			return whole(s, s[n])
		}
	}
	out := ty(t.Name)
	for _, k := range t.Args {
		out.Args = append(out.Args, whole(s, k))
	}
	return out
}

// isVariable says in another way what a variable is.
func isVariable(t api.Type) bool {
	n, err := strconv.Atoi(strings.TrimPrefix(t.Name, "?"))
	return err == nil && t.Name == "?"+strconv.Itoa(n) && n >= 0 && n <= api.MaxVariable && len(t.Args) == 0
}

// close says what becomes of nodes and goals at the end. Variables without a type are found by giving all of them the type error.
func (r *reading) close(own api.Signature) {
	s, _ := types.Solve(r.kept)
	all := slices.Clone(r.kept)
	for n := range r.fresh {
		all = append(all, api.Equation{A: v(n), B: ty("error")})
	}
	for _, n := range []int{0, 1, 2, 3, 7, 50, 1000} {
		all = append(all, api.Equation{A: v(n), B: ty("error")}) // those in the signatures of these tests
	}
	closed, _ := types.Solve(all)
	for n, p := range r.parts {
		params, ok := r.params[n]
		if !ok || len(params) == 0 {
			continue
		}
		open := slices.ContainsFunc(params, func(x api.Type) bool { return !equal(types.Apply(s, x), types.Apply(closed, x)) })
		if open || types.Nodes(s, ty(p.tree.Text, params...)) > api.MaxWide {
			r.out.Diags = append(r.out.Diags, api.Diag{Code: api.CodeOpen, Node: p.tree.At, Text: p.tree.Text})
		}
		var are []api.Type
		for _, x := range params {
			are = append(are, types.Apply(closed, x))
		}
		p.tree.Text = types.Print(ty(p.tree.Text, are...))
	}
	bounds := map[string]api.Type{}
	for _, p := range own.Params {
		if _, twice := bounds["$"+p.Name]; !twice {
			bounds["$"+p.Name] = ty("$" + p.Bound)
		}
	}
	for i, g := range r.out.Goals {
		r.out.Goals[i].Type = replaced(types.Apply(closed, g.Type), bounds)
	}
}

func equal(a, b api.Type) bool { return exactType(a) == exactType(b) }

// compare tests what Body returns, and returns it.
func compare(t *testing.T, in api.Tree, l []api.Known) api.Inferred {
	t.Helper()
	got, want := infer.Body(in, l), read(in, l)
	if exactInferred(got) != exactInferred(want) {
		t.Fatalf("%s with\n%s\nbecame\n%s, with %s, goals %s\nwanted:\n%s, with %s, goals %s", show(in), showKnown(l), show(got.Tree), showDiags(got.Diags), showGoals(got), show(want.Tree), showDiags(want.Diags), showGoals(want))
	}
	return got
}

// showKnown writes signatures, so that it can be seen what was tested.
func showKnown(l []api.Known) string {
	s := ""
	for _, k := range l {
		s += k.Def + " " + strconv.Itoa(k.Sig.Kind)
		for _, p := range k.Sig.Params {
			s += " " + p.Name + ":" + p.Bound
		}
		s += " | " + strings.Join(k.Sig.Names, " ") + " |"
		for _, a := range k.Sig.Args {
			s += " " + showType(a)
		}
		s += " = " + showType(k.Sig.Result) + "; "
	}
	return s
}
