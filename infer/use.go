package infer

import (
	"cmp"
	"slices"
	"strconv"

	"recompile/api"
	"recompile/solution"
	"recompile/types"
)

// use is a KCall or a KNew whose definition has parameters.
type use struct {
	tree   *api.Tree
	number int
	params []api.Type // the variables in the place of the parameters
}

// use adds the equations for the Kids of a KCall or a KNew, and returns the result of its definition, which has one of some kinds.
func (b *body) use(n node, kinds ...int) api.Type {
	sig := b.known[n.tree.Text]
	if !slices.Contains(kinds, sig.Kind) {
		return b.bad(n.tree, api.CodeKind)
	}
	if len(sig.Args) != len(n.kids) {
		return b.bad(n.tree, api.CodeCount)
	}
	l := b.instance(n, sig)
	for k := range n.kids {
		b.want(n, k, l[k])
	}
	return l[len(n.kids)]
}

// bad makes a KBad of a node with a diagnostic.
func (b *body) bad(t *api.Tree, code int) api.Type {
	t.Kind = api.KBad
	return b.fail(t, code)
}

// instance returns the Args and then the Result of a signature with new variables in the place of its Params; those with a bound give goals.
func (b *body) instance(n node, sig api.Signature) []api.Type {
	l := append(slices.Clone(sig.Args), sig.Result)
	if len(sig.Params) == 0 {
		return l
	}
	u := use{tree: n.tree, number: n.number}
	for _, p := range sig.Params {
		v := variable(b.further)
		b.further++
		u.params = append(u.params, v)
		if p.Bound != "" {
			b.goals = append(b.goals, api.Goal{Trait: p.Bound, Type: v})
			b.at = append(b.at, n.tree.At)
		}
	}
	b.uses = append(b.uses, u)
	return types.Put(api.Type{Args: l}, names(sig.Params), u.params).Args
}

func names(params []api.Param) []string {
	var out []string
	for _, p := range params {
		out = append(out, p.Name)
	}
	return out
}

// dot returns the type of a field.
func (b *body) dot(n node) api.Type {
	t := b.types.Outer(n.kid(0))
	if t.Name == errorName {
		n.tree.Kind = api.KBad
		return named(errorName)
	}
	if solution.IsVariable(t) {
		return b.bad(n.tree, api.CodeOpen)
	}
	record := b.known[t.Name]
	field := slices.Index(record.Names, n.tree.Text)
	if record.Kind != api.SigRecord || field < 0 {
		return b.bad(n.tree, api.CodeField)
	}
	n.tree.Text = strconv.Itoa(field)
	if field >= len(record.Args) {
		return named(errorName)
	}
	return put(record.Args[field], byName(record.Params, t.Args))
}

// byName returns the types of parameters, by their names with "$".
func byName(params []api.Param, l []api.Type) map[string]api.Type {
	out := map[string]api.Type{}
	for i := range min(len(params), len(l)) {
		name := "$" + params[i].Name
		if _, twice := out[name]; !twice {
			out[name] = l[i]
		}
	}
	return out
}

// put is like types.Put, but what it puts in shares its lists with the result: fields of fields can have types that double each time, so that copies would not end.
func put(t api.Type, l map[string]api.Type) api.Type {
	if x, ok := l[t.Name]; ok && len(t.Args) == 0 {
		return x
	}
	out := api.Type{Name: t.Name}
	for _, k := range t.Args {
		out.Args = append(out.Args, put(k, l))
	}
	return out
}

// closeUses gives each KCall and KNew the types of its parameters; those that are open or too many are a diagnostic, too.
func (b *body) closeUses() {
	slices.SortFunc(b.uses, func(x, y use) int { return cmp.Compare(x.number, y.number) })
	for _, u := range b.uses {
		b.close(u)
	}
}

func (b *body) close(u use) {
	made := api.Type{Name: u.tree.Text}
	open := solution.Nodes(b.types.Outer, api.Type{Name: u.tree.Text, Args: u.params}) > api.MaxWide
	for _, p := range u.params {
		t := solution.Apply(b.types.Outer, p)
		open = open || isOpen(t)
		made.Args = append(made.Args, settled(t))
	}
	if open {
		b.fail(u.tree, api.CodeOpen)
	}
	u.tree.Text = types.Print(made)
}

// isOpen reports whether there is a variable in a type.
func isOpen(t api.Type) bool {
	return solution.IsVariable(t) || slices.ContainsFunc(t.Args, isOpen)
}

// closeGoals gives the goals their types; params are those of the definition itself.
func (b *body) closeGoals(params []api.Param) {
	var bounds []api.Type
	for _, p := range params {
		bounds = append(bounds, named("$"+p.Bound))
	}
	for i := range b.goals {
		t := settled(solution.Apply(b.types.Outer, b.goals[i].Type))
		b.goals[i].Type = types.Put(t, names(params), bounds)
	}
}

// settled returns a type with the type error in the place of variables.
func settled(t api.Type) api.Type {
	if solution.IsVariable(t) {
		return named(errorName)
	}
	out := api.Type{Name: t.Name}
	for _, k := range t.Args {
		out.Args = append(out.Args, settled(k))
	}
	return out
}
