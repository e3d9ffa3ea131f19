package reach_test

import (
	"slices"
	"strconv"
	"strings"
	"testing"

	"recompile/api"
	"recompile/evaluate"
	"recompile/infer"
	"recompile/lower"
	"recompile/modules"
	"recompile/parser"
	"recompile/reach"
	"recompile/resolve"
	"recompile/shape"
	"recompile/signature"
	"recompile/types"
)

// program is the module p after inference.
type program struct {
	typed map[string]api.Tree
	known map[string]api.Signature
}

// inferred returns the module p with a text, which has no errors.
func inferred(t *testing.T, text string) program {
	t.Helper()
	items, errors := parser.Module(text)
	if len(errors) > 0 {
		t.Fatalf("%s has errors at %v", text, errors)
	}
	p := program{map[string]api.Tree{}, map[string]api.Signature{}}
	binds := modules.Step("p", modules.Names(items), nil)
	trees := map[string]api.Tree{}
	var known []api.Known
	for _, name := range modules.Names(items) {
		item, _ := modules.Item(items, name)
		def := "p::" + name
		trees[def] = resolve.Resolve(shape.Number(item), binds).Tree
		p.known[def] = signature.Of(def, trees[def])
		known = append(known, api.Known{Def: def, Sig: p.known[def]})
	}
	for def, tree := range trees {
		result := infer.Body(tree, known)
		if len(result.Diags) > 0 {
			t.Fatalf("%s: %s has diagnostics %v", text, def, result.Diags)
		}
		p.typed[def] = result.Tree
	}
	return p
}

// unit returns the code of an instance. Calls of functions of traits have no target.
func (p program) unit(sym string) api.Unit {
	x, _ := types.Parse(sym)
	var names []string
	for _, param := range p.known[x.Name].Params {
		names = append(names, param.Name)
	}
	var targets []api.Equation
	for _, c := range lower.Calls(p.typed[x.Name], names, x.Args) {
		if p.known[c.Name].Kind == api.SigFn {
			targets = append(targets, api.Equation{A: c, B: c})
		}
	}
	return api.Unit{Sym: sym, Code: lower.Body(p.typed[x.Name], names, x.Args, targets)}
}

// faceOfUnit returns a face with the calls of a unit.
func faceOfUnit(u api.Unit) api.Face { return api.Face{Module: u.Sym, Own: reach.Calls(u.Code)} }

func TestProgram(t *testing.T) {
	p := inferred(t, `
		trait Show { fn show(s: Self) -> int; }
		type Box<T> { x: T }
		const ten: int = 3 + id(7);
		const one: int = ten / 10;
		fn id<T>(x: T) -> T { x }
		fn odd(n: int) -> bool { if n == 0 { false } else { even(n - one) } }
		fn even(n: int) -> bool { n == 0 || odd(n - one) }
		fn boxed<T>(n: int, x: T) -> T { if n < 1 { id(x) } else { boxed(n - 1, new Box(x).x) } }
		fn shown<T>(x: T) -> int { show(x) }
		fn never() { while false { print shown(1); } }
		fn main() -> int { let b = boxed(ten, even(4)); print boxed(1, 2); never(); if b { 1 } else { show(b) } }
		`)
	var l []api.Face
	for _, sym := range []string{"p::main", "p::boxed<bool>", "p::boxed<int>", "p::even", "p::id<bool>", "p::id<int>", "p::never", "p::odd", "p::one", "p::shown<int>", "p::ten"} {
		l = append(l, faceOfUnit(p.unit(sym)))
	}
	want := []api.Face{
		{Module: "p::main", Own: []string{"p::boxed<bool>", "p::boxed<int>", "p::even", "p::never"}},
		{Module: "p::boxed<bool>", Own: []string{"p::boxed<bool>", "p::id<bool>"}},
		{Module: "p::boxed<int>", Own: []string{"p::boxed<int>", "p::id<int>"}},
		{Module: "p::even", Own: []string{"p::odd"}},
		{Module: "p::id<bool>"},
		{Module: "p::id<int>"},
		{Module: "p::never", Own: []string{"p::shown<int>"}},
		{Module: "p::odd", Own: []string{"p::even"}},
		{Module: "p::one"},
		{Module: "p::shown<int>"},
		{Module: "p::ten", Own: []string{"p::id<int>"}},
	}
	if show(l) != show(want) {
		t.Errorf("the calls are %s, expected %s", show(l), show(want))
	}
	both := words("p::even p::odd")
	checkAll(t, l, [][]string{
		words("p::boxed<bool> p::boxed<int> p::even p::id<bool> p::id<int> p::never p::odd p::shown<int>"),
		words("p::boxed<bool> p::id<bool>"), words("p::boxed<int> p::id<int>"), both, nil, nil, words("p::shown<int>"), both, nil, nil, words("p::id<int>"),
	})
}

// writer writes the body of a function, and notes what it calls.
type writer struct {
	*dice
	own   string // the type of the variable x
	plain bool   // whether all calls are made, in every run, and nothing but calls can end it
	calls []string
}

// call writes a call of one of the functions from the number least on.
func (w *writer) call(least int) string {
	k := least + w.roll(6-least)
	name := "f" + strconv.Itoa(k)
	switch w.roll(4) {
	case 0:
		w.calls = append(w.calls, "p::g"+strconv.Itoa(k))
		return "g" + strconv.Itoa(k) + "(n)"
	case 1:
		w.calls = append(w.calls, "p::"+name+"<int>")
		return name + "(n, 1)"
	case 2:
		w.calls = append(w.calls, "p::"+name+"<bool>")
		return name + "(n + 1, n < 3)"
	}
	w.calls = append(w.calls, "p::"+name+"<"+w.own+">")
	return name + "(n, x)"
}

// other writes an expression that is no call.
func (w *writer) other() string {
	l := []string{"1", "n", "new Box(x, n).n", "{ print n; 2 }", "{ let y = x; 3 }"}
	if !w.plain {
		l = append(l, "ten", "show(x)", "show(new Box(n, 1))", "if x0 { 1 } else { n }")
	}
	return l[w.roll(len(l))]
}

// expr writes an expression with calls of functions from the number least on.
func (w *writer) expr(depth, least int) string {
	if depth < 1 || w.roll(5) == 0 {
		if least > 5 || w.roll(3) == 0 {
			return w.other()
		}
		return w.call(least)
	}
	a, b := w.expr(depth-1, least), w.expr(depth-1, least)
	if !w.plain {
		switch w.roll(6) {
		case 0:
			return "if " + a + " < 1 { " + b + " } else { " + w.expr(depth-2, least) + " }"
		case 1:
			return "{ let i = " + a + "; while i < 3 && 0 < " + b + " { i = i + 1; } i }"
		}
	}
	return w.pick("("+a+" + "+b+")", "{ let y = "+a+"; y - "+b+" }", "{ print "+a+"; "+b+" }", "new Box(n, "+a+").n - "+b)
}

// pick returns one of some strings.
func (d *dice) pick(l ...string) string { return l[d.roll(len(l))] }

// generated returns the text of a program, and the calls of each of its instances. In some programs functions call only those with greater numbers.
func (d *dice) generated(plain, forward bool) (string, []api.Face) {
	text := "trait Show { fn show(s: Self) -> int; } type Box<T> { x: T, n: int } const ten: int = 10; const x0: bool = true; "
	var l []api.Face
	for k := range 6 {
		least := 0
		if forward {
			least = k + 1
		}
		f, g := writer{dice: d, own: "$T", plain: plain}, writer{dice: d, own: "bool", plain: plain}
		number := strconv.Itoa(k)
		text += "fn f" + number + "<T>(n: int, x: T) -> int { " + f.expr(d.roll(3), least) + " } fn g" + number + "(n: int) -> int { let x = n < 2; " + g.expr(d.roll(3), least) + " } "
		l = append(l, api.Face{Module: "p::g" + number, Own: g.calls})
		for _, arg := range []string{"int", "bool"} {
			l = append(l, api.Face{Module: "p::f" + number + "<" + arg + ">", Own: lists(strings.ReplaceAll(strings.Join(f.calls, " "), "$T", arg))[0]})
		}
	}
	return text, l
}

// unitsOf returns the units of faces, whose calls it tests.
func unitsOf(t *testing.T, text string, l []api.Face) []api.Unit {
	t.Helper()
	p := inferred(t, text)
	var out []api.Unit
	for _, f := range l {
		u := p.unit(f.Module)
		if got := reach.Calls(u.Code); !slices.Equal(got, inserted(f.Own)) {
			t.Fatalf("%s\n%s calls %q, expected %q", text, f.Module, got, f.Own)
		}
		out = append(out, u)
	}
	return out
}

// What is reached in generated programs is what the calls lead to that were written, in every order.
func TestGeneratedPrograms(t *testing.T) {
	t.Parallel()
	d := &dice{174}
	recursive, all := 0, 0
	for range 800 {
		text, known := d.generated(false, d.roll(3) == 0)
		var l []api.Face
		for _, u := range unitsOf(t, text, known) {
			l = append(l, faceOfUnit(u))
		}
		for i, list := range checkWays(t, l) {
			if want := inserted(follow(known, i, nil)); !slices.Equal(list, want) {
				t.Fatalf("%s\n%s reaches %q, expected %q", text, l[i].Module, list, want)
			}
		}
		checkOrder(t, l, d.order(len(l)))
		recursive, all = recursive+checkRecursive(t, l), all+len(l)
	}
	if recursive < all/10 || recursive > all/2 {
		t.Errorf("%d of %d instances are recursive", recursive, all)
	}
}

// without returns the units that are not those of a symbol.
func without(l []api.Unit, sym string) []api.Unit {
	return slices.DeleteFunc(slices.Clone(l), func(u api.Unit) bool { return u.Sym == sym })
}

// A function without conditions needs what it reaches and no other, and ends unless it, or what it reaches, is recursive.
func TestRunsNeedWhatIsReached(t *testing.T) {
	t.Parallel()
	d := &dice{175}
	ended := 0
	for range 150 {
		text, l := d.generated(true, d.roll(2) == 0)
		units := unitsOf(t, text, l)
		all := reach.All(l)
		for i, f := range l {
			needs, endless := append(slices.Clone(all[i]), f.Module), false
			for _, sym := range needs {
				endless = endless || reach.Recursive(sym, all[faceOf(l, sym)])
			}
			only := slices.DeleteFunc(slices.Clone(units), func(u api.Unit) bool { return !slices.Contains(needs, u.Sym) })
			args := []int{1, 1}[:units[i].Code.Params]
			out := evaluate.Run(only, nil, f.Module, args, api.MaxSteps)
			if endless != (out.Trap == api.TrapFrames || out.Trap == api.TrapSteps) || !endless && out.Trap != api.TrapNone {
				t.Fatalf("%s\n%s ends with %v and reaches %q", text, f.Module, out, all[i])
			}
			if endless {
				continue
			}
			ended++
			for _, sym := range needs {
				if out := evaluate.Run(without(only, sym), nil, f.Module, args, api.MaxSteps); out.Trap != api.TrapLink {
					t.Fatalf("%s\n%s does not need %s", text, f.Module, sym)
				}
			}
		}
	}
	if ended < 500 {
		t.Errorf("only %d runs have ended", ended)
	}
}
