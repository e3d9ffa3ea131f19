package modules_test

import (
	"slices"
	"strings"
	"testing"

	"recompile/api"
	"recompile/modules"
)

// These are second readings of P6.3 to P6.5, without maps, which the layer is compared with.

func isVisible(name string) bool { return len(name) < 5 || name[:5] != "impl " }

// inOrder returns binds in their order, each once.
func inOrder(l []api.Bind) []api.Bind {
	var out []api.Bind
	for _, b := range l {
		at := 0
		for at < len(out) && (out[at].Name < b.Name || out[at].Name == b.Name && out[at].Def < b.Def) {
			at++
		}
		if at == len(out) || out[at] != b {
			out = slices.Insert(out, at, b)
		}
	}
	return out
}

func stepOf(module string, names []string, others [][]api.Bind) []api.Bind {
	var out []api.Bind
	for _, name := range names {
		if isVisible(name) {
			out = append(out, api.Bind{Name: name, Def: module + "::" + name})
		}
	}
	for _, b := range slices.Concat(others...) {
		if !isVisible(b.Name) || !slices.Contains(names, b.Name) {
			out = append(out, b)
		}
	}
	return inOrder(out)
}

// faceOf returns the index of the face of a module, -1 if there is none.
func faceOf(l []api.Face, module string) int {
	return slices.IndexFunc(l, func(f api.Face) bool { return f.Module == module })
}

func has(f api.Face, name string) bool { return isVisible(name) && slices.Contains(f.Own, name) }

// found returns the faces which have a name of their own and are on a way from the face i on along re-exports, on which no face before has it.
func found(l []api.Face, i int, name string, seen []bool) []int {
	if i < 0 || seen[i] {
		return nil
	}
	seen[i] = true
	if has(l[i], name) {
		return []int{i}
	}
	var out []int
	for _, module := range l[i].Pub {
		out = append(out, found(l, faceOf(l, module), name, seen)...)
	}
	return out
}

// allOf looks for every name from every face on.
func allOf(l []api.Face, names []string) [][]api.Bind {
	var out [][]api.Bind
	for i := range l {
		var list []api.Bind
		for _, name := range names {
			for _, j := range found(l, i, name, make([]bool, len(l))) {
				list = append(list, api.Bind{Name: name, Def: l[j].Module + "::" + name})
			}
		}
		out = append(out, inOrder(list))
	}
	return out
}

// subset returns the elements of l whose bits are in n.
func subset(l []string, n int) []string {
	var out []string
	for i, s := range l {
		if n>>i&1 == 1 {
			out = append(out, s)
		}
	}
	return out
}

// checkAll tests that All is as by the second reading, and that each list is Step of the others.
func checkAll(t *testing.T, l []api.Face, names []string) [][]api.Bind {
	t.Helper()
	got := modules.All(l)
	if !equal(got, allOf(l, names)) {
		t.Fatalf("All of %q: %q", l, got)
	}
	for i, f := range l {
		var others [][]api.Bind
		for _, module := range f.Pub {
			if j := faceOf(l, module); j >= 0 {
				others = append(others, got[j])
			}
		}
		if !slices.Equal(got[i], modules.Step(f.Module, f.Own, others)) {
			t.Fatalf("All of %q: the list %d is not Step of the others: %q", l, i, got)
		}
	}
	return got
}

// threeFaces calls do with all faces of a, b and c with some of the names x and y.
func threeFaces(do func(l []api.Face)) {
	modules, names := []string{"a", "b", "c"}, []string{"x", "y"}
	for n := range 1 << 15 {
		var l []api.Face
		for i, m := range modules {
			k := n >> (5 * i)
			l = append(l, api.Face{Module: m, Own: subset(names, k&3), Pub: subset(modules, k>>2&7)})
		}
		do(l)
	}
}

func TestEveryThreeFaces(t *testing.T) {
	threeFaces(func(l []api.Face) { checkAll(t, l, []string{"x", "y"}) })
}

func TestEveryThreeFacesOfTwoModules(t *testing.T) {
	for n := range 1 << 15 {
		var l []api.Face
		for i := range 3 {
			k := n >> (5 * i)
			l = append(l, api.Face{Module: string("ab"[k&1]), Own: subset([]string{"x", "impl x"}, (k>>1&1)*3), Pub: subset([]string{"a", "b", "c"}, k>>2&7)})
		}
		checkAll(t, l, []string{"x"})
	}
}

// few are names and modules of generated faces; some are not visible.
var few = []string{"a", "b", "c", "d", "e", "impl a for b", "impl", ""}

func (d *dice) few(n int) []string {
	var out []string
	for range d.roll(n) {
		out = append(out, few[d.roll(len(few))])
	}
	return out
}

// faces returns faces, with modules and names that can come twice.
func (d *dice) faces(n int) []api.Face {
	var out []api.Face
	for range d.roll(n) {
		out = append(out, api.Face{Module: few[d.roll(len(few))], Own: d.few(4), Pub: d.few(5)})
	}
	return out
}

func TestAllOfGeneratedFaces(t *testing.T) {
	d := &dice{64}
	for range 6000 {
		checkAll(t, d.faces(12), few)
	}
}

func (d *dice) binds(n int) []api.Bind {
	var out []api.Bind
	for range d.roll(n) {
		out = append(out, api.Bind{Name: few[d.roll(len(few))], Def: few[d.roll(len(few))]})
	}
	return out
}

func TestStepAndLookupOfGeneratedBinds(t *testing.T) {
	d := &dice{65}
	for range 6000 {
		module, names := few[d.roll(len(few))], d.few(6)
		var others [][]api.Bind
		for range d.roll(5) {
			others = append(others, d.binds(9))
		}
		if got := modules.Step(module, names, others); !slices.Equal(got, stepOf(module, names, others)) {
			t.Fatalf("Step of %q, %q with %q: %q", module, names, others, got)
		}
		l := slices.Concat(others...)
		for _, name := range few {
			var defs []string
			for _, b := range l {
				if b.Name == name && !slices.Contains(defs, b.Def) {
					defs = append(defs, b.Def)
				}
			}
			want := ""
			if len(defs) == 1 {
				want = defs[0]
			}
			if def, n := modules.Lookup(l, name); def != want || n != len(defs) {
				t.Fatalf("Lookup of %q in %q: %q, %d", name, l, def, n)
			}
		}
	}
}

func TestEveryStepOfTwoLists(t *testing.T) {
	every := binds("x=a::x,x=m::x,y=a::x,impl x=a::x,x=b")
	names := []string{"x", "y", "impl x"}
	for n := range 8 << 10 {
		var one, two []api.Bind
		for i, b := range every {
			if n>>i&1 == 1 {
				one = append(one, b)
			}
			if n>>(5+i)&1 == 1 {
				two = append([]api.Bind{b}, two...)
			}
		}
		own := subset(names, n>>10)
		if got := modules.Step("m", own, [][]api.Bind{one, two}); !slices.Equal(got, stepOf("m", own, [][]api.Bind{one, two})) {
			t.Fatalf("Step of %q with %q and %q: %q", own, one, two, got)
		}
	}
}

// The names of definitions are what Step takes: those of implementations get no bind.
func TestStepOfNamesOfItems(t *testing.T) {
	d := &dice{66}
	for range 300 {
		p := &program{}
		for range d.roll(9) {
			d.item(p)
		}
		var want []api.Bind
		names := modules.Names(parsed(t, p.text.String()))
		for _, k := range p.defs {
			if k.kind != api.KImpl && !strings.Contains(k.name, ".") {
				want = append(want, api.Bind{Name: k.name, Def: "m::" + k.name})
			}
		}
		if got := modules.Step("m", names, nil); !slices.Equal(got, inOrder(want)) {
			t.Errorf("Step of %q: %q", names, got)
		}
	}
}
