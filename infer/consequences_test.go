package infer_test

import (
	"slices"
	"strings"
	"testing"

	"recompile/api"
	"recompile/infer"
)

// wrong are trees with one diagnostic each, which have the type error; the first one has none.
func wrong() []api.Tree {
	var out []api.Tree
	for _, text := range strings.Split("bad x;call p::nothing;call p::Nil(int 1, bool true);call p::id;call p::id(int 1, bool true);new p::f;new p::nothing(unit);new p::Pair(bool true);global p::nothing;global p::id;dot nothing(new p::Nil);dot x(int 1);dot a(dot b(new p::Box(int 1)))", ";") {
		out = append(out, of(text))
	}
	return out
}

// spoilt returns a definition in which one of the nodes of its last Kid is another tree.
func (d *dice) spoilt(in, other api.Tree) api.Tree {
	in = copied(in)
	var nodes []*api.Tree
	change(&in.Kids[len(in.Kids)-1], func(n *api.Tree) { nodes = append(nodes, n) })
	*nodes[d.roll(len(nodes))] = other
	return in
}

// In a program in which each parameter of a definition is the type of one of its arguments, one error gives one diagnostic, whatever is around it.
func TestOneErrorGivesOneDiagnostic(t *testing.T) {
	t.Parallel()
	d := &dice{134}
	texts := map[string]bool{}
	for seed := range 800 {
		w := newWriter(seed)
		w.plain = true
		result := w.some()
		p := compile(t, library+w.function(result, w.block(result, true, 1+w.roll(4)).text))
		for i, other := range wrong() {
			in := d.spoilt(p.trees["f"], other)
			got := infer.Body(in, p.known)
			if len(got.Diags) != min(i, 1) {
				t.Fatalf("%s has %s", show(in), showDiags(got.Diags))
			}
			for _, x := range got.Diags {
				texts[x.Text] = true
				if !slices.Contains([]int{api.CodeKind, api.CodeCount, api.CodeField}, x.Code) || !strings.Contains(show(other), " "+x.Text) {
					t.Fatalf("%s has %s", show(in), showDiags(got.Diags))
				}
			}
		}
	}
	if len(texts) < 8 {
		t.Errorf("only diagnostics of %v", texts)
	}
}

// In any program nothing disagrees with the type error: it can only leave a type open.
func TestNothingDisagreesWithTheTypeError(t *testing.T) {
	t.Parallel()
	d := &dice{135}
	open := 0
	for seed := range 1500 {
		w := newWriter(seed)
		result := w.some()
		p := compile(t, library+w.function(result, w.block(result, true, 1+w.roll(4)).text))
		for range 4 {
			in := d.spoilt(p.trees["f"], of("bad x"))
			for _, x := range infer.Body(in, p.known).Diags {
				if x.Code != api.CodeOpen {
					t.Fatalf("%s has %s", show(in), showDiags(infer.Body(in, p.known).Diags))
				}
				open++
			}
		}
	}
	if open == 0 {
		t.Error("no type was left open")
	}
}

// What a node gets does not change what comes before it: errors are found again, and others behind them.
func TestEveryErrorIsFound(t *testing.T) {
	for _, c := range []struct{ value, diags string }{
		{"block(unary -(unit), unary !(int 1), unit)", "9@4, 9@6"}, {"block(let x@0(unary -(unit)), unary !(local x@0), unit)", "9@5, 9@7"}, {"block(let x@0(call p::z), unary !(local x@0), unary -(local x@0), unary -(unit), unit)", "7@4 p::z, 9@10"},
		{"block(dot x(global p::r), dot y(global p::r), dot z(dot x(global p::r)), unit)", "10@3 x, 10@5 y, 10@8 x"}, {"block(call p::f(unit, unit), call p::f(unit, unit), unit)", "9@4, 9@5, 9@7, 9@8"}, {"block(let x@0(call p::any), print(local x@0), unary !(local x@0), unary !(local x@0), unit)", "9@8, 9@10"},
	} {
		checkValue(t, "unit", c.value, strings.NewReplacer("call p::z", "bad p::z", "call p::any", "call p::any<int>", "dot x", "bad x", "dot y", "bad y", "dot z", "bad z").Replace(c.value), c.diags)
	}
}

// The bodies of other definitions do not matter.
func TestBodiesOfOthers(t *testing.T) {
	other := strings.NewReplacer("{ x }", "{ let y = swap(x); y.b + nothing!() }", "{ p.a }", "{ }", "new Pair(p.b, p.a)", "p", "if c { x } else { y }", "pick(x, y, c)", "make()", "{ while make() { } 1 }").Replace(library)
	if strings.Count(other, "\n") != strings.Count(library, "\n") || strings.Contains(other, "p.a }") {
		t.Fatalf("the other library is %s", other)
	}
	for seed := range 300 {
		w := newWriter(seed)
		result := w.some()
		f := w.function(result, w.block(result, true, 1+w.roll(4)).text)
		p, q := compile(t, library+f), compile(t, other+f)
		if exactInferred(p.body("f")) != exactInferred(q.body("f")) {
			t.Fatalf("%s with other bodies: %s", f, show(q.body("f").Tree))
		}
		if exactInferred(p.body("swap")) == exactInferred(q.body("swap")) {
			t.Fatal("the other bodies are the same")
		}
	}
}

// needed returns the signatures that are asked for: those that Needs names, and then those of the definitions in the types of these.
func needed(in api.Tree, l []api.Known) []api.Known {
	asked := map[string]bool{}
	var out []api.Known
	left := infer.Needs(in)
	for len(left) > 0 {
		def := left[0]
		left = left[1:]
		if asked[def] {
			continue
		}
		asked[def] = true
		if i := slices.IndexFunc(l, func(k api.Known) bool { return k.Def == def }); i >= 0 {
			out = append(out, l[i])
			for _, x := range append(slices.Clone(l[i].Sig.Args), l[i].Sig.Result) {
				left = append(left, definitionsIn(x)...)
			}
		}
	}
	return out
}

func definitionsIn(t api.Type) []string {
	var out []string
	if strings.Contains(t.Name, "::") {
		out = append(out, t.Name)
	}
	for _, k := range t.Args {
		out = append(out, definitionsIn(k)...)
	}
	return out
}

// Signatures that are not needed do not matter, nor does their order.
func TestOtherSignatures(t *testing.T) {
	t.Parallel()
	d := &dice{136}
	fewer := 0
	for range 10000 {
		l := d.known()
		in := d.anyTree(l)
		want := exactInferred(infer.Body(in, l))
		few := needed(in, l)
		if len(few) < len(l) {
			fewer++
		}
		if got := exactInferred(infer.Body(in, few)); got != want {
			t.Fatalf("%s with\n%s\nand with\n%s:\n%s\n%s", show(in), showKnown(l), showKnown(few), want, got)
		}
		for i := range few {
			k := d.roll(i + 1)
			few[i], few[k] = few[k], few[i]
		}
		for _, def := range []string{"p::c", "p::f", "p::R", "p::L", "p::S", "x@0", "T"} {
			if !slices.Contains(reached(in, l), def) {
				few = slices.Insert(few, d.roll(len(few)+1), api.Known{Def: def, Sig: d.signature(def, 1+d.roll(7))})
			}
		}
		if got := exactInferred(infer.Body(in, few)); got != want {
			t.Fatalf("%s with\n%s\nand with\n%s:\n%s\n%s", show(in), showKnown(l), showKnown(few), want, got)
		}
	}
	if fewer < 5000 {
		t.Errorf("only %d trees need fewer signatures than there are", fewer)
	}
}

// reached returns the definitions that are asked for, whether or not there are signatures of them.
func reached(in api.Tree, l []api.Known) []string {
	out := infer.Needs(in)
	for _, k := range needed(in, l) {
		for _, x := range append(slices.Clone(k.Sig.Args), k.Sig.Result) {
			out = append(out, definitionsIn(x)...)
		}
	}
	return out
}
