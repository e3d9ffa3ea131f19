package modules_test

import (
	"slices"
	"strings"
	"testing"

	"recompile/api"
	"recompile/modules"
)

// known is a node that defines a name: its item has the number item.
type known struct {
	name           string
	kind, at, item int
}

// program is a text of which is known what it defines.
type program struct {
	text           strings.Builder
	items          int
	defs           []known
	used, reexport []string
}

// add writes a part of an item; a part with a kind defines a name.
func (p *program) add(text string, kind int, name string) {
	if kind != 0 {
		p.defs = append(p.defs, known{name, kind, p.text.Len(), p.items})
	}
	p.text.WriteString(text)
}

// end ends an item.
func (p *program) end(text string) {
	p.text.WriteString(text)
	p.items++
}

// simple are the items with one name.
func (p *program) simple(kind int, name string) {
	switch kind {
	case api.KConst:
		p.add("const "+name+": int = 1", kind, name)
		p.end(";")
	case api.KFn:
		p.add("fn "+name+"<a>(b: a)", kind, name)
		p.end("{ c }")
	case api.KType:
		p.add("type "+name+"{ a: int }", kind, name)
		p.end("\n")
	case api.KMacro:
		p.add("macro "+name+"(a) = a", kind, name)
		p.end(";")
	}
}

func (p *program) trait(name string, sigs ...string) {
	p.add("trait "+name+": a {", api.KTrait, name)
	for _, s := range sigs {
		p.add("fn "+s+"(a: Self);", api.KSig, s)
	}
	p.end("} ")
}

// impl writes an implementation; written is the type as it is in names.
func (p *program) impl(params, trait, typed, written string, funs ...string) {
	title := "impl " + trait + " for " + written
	p.add("impl "+params+trait+" for "+typed+"{", api.KImpl, title)
	for _, f := range funs {
		p.add("fn "+f+"(){}", api.KFn, title+"."+f)
	}
	p.end("}")
}

func (p *program) use(module string) {
	p.used = append(p.used, module)
	p.end("use " + module + ";")
}

func (p *program) pubUse(module string) {
	p.reexport = append(p.reexport, module)
	p.end("pub use " + module + "; ")
}

// sorted returns strings ascending, each once.
func sorted(l []string) []string {
	var out []string
	for _, s := range l {
		if !slices.Contains(out, s) {
			out = append(out, s)
		}
	}
	slices.Sort(out)
	return out
}

// expected returns the definition of what is known of a node.
func expected(t *testing.T, items []api.Tree, k known) api.Tree {
	t.Helper()
	item := items[k.item]
	if k.kind == item.Kind {
		return item
	}
	i := slices.IndexFunc(item.Kids, func(x api.Tree) bool { return x.At == k.at && x.Kind == k.kind })
	if i < 0 {
		t.Fatalf("there is no node of %v", k)
	}
	want := clone(item.Kids[i])
	if k.kind == api.KSig {
		want.Kids = append(want.Kids, tree(api.KName, item.Text, k.at))
	} else {
		want.Kids[0] = clone(item.Kids[0])
	}
	return want
}

// check tests what the functions of items return for the program.
func (p *program) check(t *testing.T) {
	t.Helper()
	items := parsed(t, p.text.String())
	var names []string
	var again []int
	for _, k := range p.defs {
		if slices.Contains(names, k.name) {
			again = append(again, k.at)
			continue
		}
		names = append(names, k.name)
		checkItem(t, items, k.name, expected(t, items, k))
	}
	if got := modules.Names(items); !slices.Equal(got, sorted(names)) {
		t.Errorf("Names of %s: %q", p.text.String(), got)
	}
	if got := modules.Again(items); !slices.Equal(got, again) {
		t.Errorf("Again of %s: %v, expected %v", p.text.String(), got, again)
	}
	used, reexport := modules.Uses(items)
	if !slices.Equal(used, sorted(p.used)) || !slices.Equal(reexport, sorted(p.reexport)) {
		t.Errorf("Uses of %s: %q, %q", p.text.String(), used, reexport)
	}
	for _, name := range []string{"f", "g", "h", "T", "impl f for h", "impl h for h.f"} {
		if !slices.Contains(names, name) {
			checkNone(t, items, name)
		}
	}
}

// writers are items, in which some names come again and again.
func writers() []func(*program) {
	return []func(*program){
		func(p *program) { p.simple(api.KConst, "f") },
		func(p *program) { p.simple(api.KFn, "f") },
		func(p *program) { p.simple(api.KType, "g") },
		func(p *program) { p.simple(api.KMacro, "g") },
		func(p *program) { p.trait("f") },
		func(p *program) { p.trait("g", "f") },
		func(p *program) { p.trait("f", "g", "f", "g") },
		func(p *program) { p.impl("", "f", "g", "g", "f") },
		func(p *program) { p.impl("<a: b, T>", "f", "g", "g", "g", "f", "g") },
		func(p *program) { p.impl("<T>", "f", "g<T, int>", "g[T;int]", "f") },
		func(p *program) { p.impl("", "g", "f", "f") },
		func(p *program) { p.use("f") },
		func(p *program) { p.pubUse("g") },
	}
}

func TestAllShortPrograms(t *testing.T) {
	w := writers()
	for i := range w {
		for j := range w {
			for k := range w {
				p := &program{}
				w[i](p)
				w[j](p)
				w[k](p)
				p.check(t)
			}
		}
	}
}

// name returns one of a few names.
func (d *dice) name() string { return string("fghT"[d.roll(4)]) }

func (d *dice) names(n int) []string {
	var out []string
	for range d.roll(n) {
		out = append(out, d.name())
	}
	return out
}

// typed returns a type, and how it is in names.
func (d *dice) typed(depth int) (string, string) {
	if depth == 0 || d.roll(2) == 0 {
		name := []string{"int", "bool", "unit", "f", "T"}[d.roll(5)]
		return name, name
	}
	name := d.name()
	var texts, written []string
	for range 1 + d.roll(3) {
		x, y := d.typed(depth - 1)
		texts, written = append(texts, x), append(written, y)
	}
	return name + " < " + strings.Join(texts, ", ") + ">", name + "[" + strings.Join(written, ";") + "]"
}

func (d *dice) item(p *program) {
	switch d.roll(8) {
	case 0, 1:
		p.simple([]int{api.KConst, api.KFn, api.KType, api.KMacro}[d.roll(4)], d.name())
	case 2, 3:
		p.trait(d.name(), d.names(5)...)
	case 4, 5, 6:
		typed, written := d.typed(d.roll(4))
		params := []string{"", "<T>", "<f: g, h>"}[d.roll(3)]
		p.impl(params, d.name(), typed, written, d.names(5)...)
	default:
		if d.roll(2) == 0 {
			p.use(d.name())
		} else {
			p.pubUse(d.name())
		}
	}
}

func TestGeneratedPrograms(t *testing.T) {
	d := &dice{6}
	for range 1500 {
		p := &program{}
		for range d.roll(16) {
			d.item(p)
			if d.roll(3) == 0 {
				p.text.WriteString("// x\n")
			}
		}
		p.check(t)
	}
}
