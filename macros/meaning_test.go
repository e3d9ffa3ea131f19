package macros_test

import (
	"slices"
	"strconv"
	"strings"
	"testing"

	"recompile/api"
	"recompile/macros"
	"recompile/modules"
	"recompile/parser"
)

// Programs are run in two ways: as they are, where a use of a macro has variables of its own and its arguments are evaluated among those of the caller; and after Expand, by names alone. What they do is the same exactly if no variable is taken for another one.

// variable is one that is known, with those around it.
type variable struct {
	name  string
	value int
	up    *variable
}

// lookFor returns the variable that a name means, nil if it means none.
func (v *variable) lookFor(name string) *variable {
	for v != nil && v.name != name {
		v = v.up
	}
	return v
}

// argument is what a parameter stands for: an expr, where it is from.
type argument struct {
	tree api.Tree
	from *place
	vars *variable
}

// place is a definition, or one use of a macro, with what its names mean.
type place struct {
	binds   []api.Bind
	isMacro bool
	own     []string // the variables of a macro
	args    map[string]argument
}

// run is what a program does.
type run struct {
	macros map[string]api.Tree // as the parser returns them
	home   []api.Bind          // of the macros
	events []string
}

func (r *run) event(s string) { r.events = append(r.events, s) }

// plain returns a name without what Prepare and Expand add to it.
func plain(name string) string {
	name, _, _ = strings.Cut(name[strings.LastIndex(name, ":")+1:], "#")
	return name
}

// unknown is a name that means nothing.
func (r *run) unknown(name string) int {
	r.event("?" + plain(name))
	return 0
}

// global returns the value of a definition.
func (r *run) global(def string) int {
	r.event("read " + def)
	return len(def) + int(def[0]) + int(def[len(def)-1])
}

// outer returns the value of a name that is no variable.
func (r *run) outer(name string, b []api.Bind) int {
	if at := strings.Index(name, "::"); at > 0 {
		return r.global(name)
	}
	if def, n := modules.Lookup(b, name); n == 1 {
		return r.global(def)
	}
	return r.unknown(name)
}

// name returns the value of a name.
func (r *run) name(text string, p *place, vars *variable) int {
	if !p.isMacro || slices.Contains(p.own, text) {
		if v := vars.lookFor(text); v != nil {
			return v.value
		}
		if p.isMacro {
			return r.unknown(text)
		}
	} else if a, ok := p.args[text]; ok {
		return r.value(a.tree, a.from, a.vars)
	}
	return r.outer(text, p.binds)
}

// use returns the value of a KExpand.
func (r *run) use(t api.Tree, p *place, vars *variable) int {
	def, _ := modules.Lookup(p.binds, t.Text)
	m, ok := r.macros[def]
	if !ok || len(m.Kids[0].Kids) != len(t.Kids) {
		r.event("!" + plain(t.Text))
		return 0
	}
	inner := &place{binds: r.home, isMacro: true, args: map[string]argument{}}
	for i, k := range m.Kids[0].Kids {
		if _, ok := inner.args[k.Text]; !ok {
			inner.args[k.Text] = argument{t.Kids[i], p, vars}
		}
	}
	for _, n := range flat(m.Kids[1], 0) {
		if n.kind == api.KLet {
			inner.own = append(inner.own, n.text)
		}
	}
	return r.value(m.Kids[1], inner, nil)
}

// block returns the value of a block.
func (r *run) block(t api.Tree, p *place, vars *variable) int {
	for _, k := range t.Kids[:len(t.Kids)-1] {
		value := r.value(k.Kids[0], p, vars)
		switch k.Kind {
		case api.KLet:
			vars = &variable{k.Text, value, vars}
		case api.KPrint:
			r.event(strconv.Itoa(value))
		case api.KAssign:
			v := vars.lookFor(k.Text)
			if p.isMacro && !slices.Contains(p.own, k.Text) || v == nil {
				r.unknown(k.Text)
			} else {
				v.value = value
			}
		}
	}
	return r.value(t.Kids[len(t.Kids)-1], p, vars)
}

func (r *run) value(t api.Tree, p *place, vars *variable) int {
	switch t.Kind {
	case api.KInt:
		n, _ := strconv.Atoi(t.Text)
		return n
	case api.KName:
		return r.name(t.Text, p, vars)
	case api.KBinary:
		left := r.value(t.Kids[0], p, vars)
		return left*3 + r.value(t.Kids[1], p, vars)
	case api.KIf:
		if r.value(t.Kids[0], p, vars)%2 == 0 {
			return r.value(t.Kids[1], p, vars)
		}
		return r.value(t.Kids[2], p, vars)
	case api.KBlock:
		return r.block(t, p, vars)
	case api.KExpand:
		return r.use(t, p, vars)
	case api.KBad:
		r.event("!" + plain(t.Text))
	}
	return 0
}

// world is a module p of macros, with the binds of it, and those of the module of a definition.
type world struct {
	macros     map[string]api.Tree
	home, here []api.Bind
}

// worldOf returns the module of some macros.
func worldOf(t *testing.T, texts ...string) *world {
	t.Helper()
	w := &world{map[string]api.Tree{}, binds("g=p::g,x=p::x,f=p::f"), binds("g=h::g,y=h::y,f=h::f")}
	items, errors := parser.Module(strings.Join(texts, "\n"))
	if len(errors) != 0 {
		t.Fatalf("%q has errors at %v", texts, errors)
	}
	for _, m := range items {
		w.macros["p::"+m.Text] = m
		b := api.Bind{Name: m.Text, Def: "p::" + m.Text}
		w.home, w.here = append(w.home, b), append(w.here, b)
	}
	return w
}

// prepared returns the macros of the module.
func (w *world) prepared() []api.Macro {
	var out []api.Macro
	for def, m := range w.macros {
		out = append(out, macros.Prepare(def, m, w.home))
	}
	return out
}

// asItIs returns what an expr does.
func (w *world) asItIs(t api.Tree) []string {
	r := &run{macros: w.macros, home: w.home}
	r.event("value " + strconv.Itoa(r.value(t, &place{binds: w.here}, nil)))
	return r.events
}

// expanded returns what it does after Expand.
func (w *world) expanded(t api.Tree) ([]string, []api.Diag) {
	got := macros.Expand(t, w.here, w.prepared())
	r := &run{}
	r.event("value " + strconv.Itoa(r.value(got.Tree, &place{binds: w.here}, nil)))
	return r.events, got.Diags
}

func TestVariablesOfMacrosAreTheirOwn(t *testing.T) {
	w := worldOf(t, "macro add(a) = { let x = 10; a + x };", "macro twice(a) = { let x = a; let x = x + a; x };", "macro inc(a) = { a = a + 1; a };", "macro free() = { x + v };",
		"macro two(a,b) = { let x = a; let y = b; { let x = y; y = x; }; x + y };", "macro nest(a) = { let x = a; add!(x) + add!(a) };", "macro late(a) = { x + { let x = a; x } };", "macro pair(a) = f + g;")
	for text, want := range map[string]string{
		"{ let x = 1; add!(x) }":                               "value 13",
		"{ let x = 1; add!(x) + x }":                           "value 40",
		"{ let x = 1; add!(add!(x)) }":                         "value 49",
		"{ let x = 2; twice!(x) + x }":                         "value 26",
		"{ let x = 1; let y = 2; two!(y, x) }":                 "value 7",
		"{ let v = 1; let x = 2; free!() }":                    "read p::x ?v value 708",
		"{ let a = 1; inc!(a) }":                               "?a value 1",
		"{ let x = 3; nest!(x) + nest!(1) }":                   "value 280",
		"{ let x = 3; late!(x) }":                              "?x value 3",
		"{ let g = 1; let f = 2; pair!(1) + g + f }":           "read p::f read p::g value 7862",
		"{ add!({ let x = 1; x }) }":                           "value 13",
		"{ let x = 1; add!({ let y = x; x = 2; x + y }) + x }": "value 95",
	} {
		in := expr(t, text)
		if got := strings.Join(w.asItIs(in), " "); got != want {
			t.Errorf("%s: as it is: %s", text, got)
		}
		if got, diags := w.expanded(in); !slices.Equal(got, w.asItIs(in)) || len(diags) != 0 {
			t.Errorf("%s: expanded: %q, and %s", text, got, showDiags(diags))
		}
	}
}

// variableName returns one of a few names, which are variables, parameters, definitions, or nothing.
func (d *dice) variableName() string { return d.pick("x", "y", "a", "b", "g", "f") }

// expr returns an expr with macros of a level less than level.
func (d *dice) expr(depth, level int) string {
	if depth == 0 {
		return d.pick("1", "2", "3", d.variableName(), d.variableName(), d.variableName())
	}
	switch d.roll(8) {
	case 0:
		return d.expr(depth-1, level) + " + (" + d.expr(depth-1, level) + ")"
	case 1:
		return "if " + d.expr(depth-1, level) + " { " + d.expr(depth-1, level) + " } else " + d.block(depth-1, level)
	case 2, 3:
		return d.use(depth-1, level)
	case 4:
		return d.variableName()
	}
	return d.block(depth-1, level)
}

// use returns a use of a macro, seldom of none or with a wrong number of arguments.
func (d *dice) use(depth, level int) string {
	if d.roll(20) == 0 {
		return d.pick("none!(x)", "w!()", "w!(x, y)", "g!(x)")
	}
	if level == 0 {
		return d.expr(depth, level)
	}
	m := d.roll(level)
	var args []string
	for range m%2 + 1 {
		args = append(args, d.expr(depth, level))
	}
	return "m" + strconv.Itoa(m) + "!(" + strings.Join(args, ", ") + ")"
}

func (d *dice) block(depth, level int) string {
	s := "{ "
	for range d.roll(4) {
		switch d.roll(5) {
		case 0, 1:
			s += "let " + d.variableName() + " = " + d.expr(depth, level) + "; "
		case 2:
			s += d.variableName() + " = " + d.expr(depth, level) + "; "
		case 3:
			s += "print " + d.expr(depth, level) + "; "
		case 4:
			s += "(" + d.expr(depth, level) + "); "
		}
	}
	return s + d.expr(depth, level) + " }"
}

// world returns a module of macros m0 to m3, each of which uses only those before it.
func (d *dice) world(t *testing.T) (*world, []string) {
	t.Helper()
	texts := []string{"macro w(x) = x;"}
	for m := range 4 {
		params := d.variableName()
		if m%2 == 1 {
			params += ", " + d.variableName()
		}
		texts = append(texts, "macro m"+strconv.Itoa(m)+"("+params+") = "+d.block(1+d.roll(2), m)+";")
	}
	return worldOf(t, texts...), texts
}

func TestGeneratedProgramsDoTheSameAfterExpand(t *testing.T) {
	d := &dice{73}
	compared, long := 0, 0
	for range 4000 {
		w, texts := d.world(t)
		for range 3 {
			text := d.block(2+d.roll(2), 4)
			in := expr(t, text)
			got, diags := w.expanded(in)
			if isTooMuch(diags) {
				continue
			}
			compared++
			if len(diags) == 0 && len(got) > 10 {
				long++
			}
			if want := w.asItIs(in); !slices.Equal(got, want) {
				t.Fatalf("%s with %q: as it is: %q, expanded: %q", text, texts, want, got)
			}
		}
	}
	if compared < 9000 || long < 1000 {
		t.Errorf("only %d programs are compared, %d of them do much", compared, long)
	}
}

// isTooMuch reports whether a macro is not expanded because of MaxExpand or MaxNodes: only w is used with a wrong number of arguments.
func isTooMuch(l []api.Diag) bool {
	return slices.ContainsFunc(l, func(d api.Diag) bool { return d.Code == api.CodeMacro && plain(d.Text) != "w" })
}
