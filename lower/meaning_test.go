package lower_test

import (
	"slices"
	"strconv"
	"strings"
	"testing"

	"recompile/api"
	"recompile/parser"
	"recompile/types"
)

// Programs are run in two ways: as the parser returns them, with values that know their types, and variables in blocks; and as the code of their instances. They print the same, and have the same value or the same end.

// end is why a run ends before it is done.
type end string

const enough = 200000 // steps of a run

// thing is a value of a program as the parser returns it.
type thing struct {
	of     string // int, bool, unit, or a record
	n      int
	fields []thing
}

// place is a variable of a block, with those around it.
type place struct {
	name string
	is   thing
	up   *place
}

func (p *place) find(name string) *place {
	for p != nil && p.name != name {
		p = p.up
	}
	return p
}

// teller runs a program as the parser returns it.
type teller struct {
	items  []api.Tree
	prints []string
	steps  int
}

func (r *teller) item(kind int, name string) api.Tree {
	for _, k := range r.items {
		if k.Kind == kind && k.Text == name {
			return k
		}
	}
	panic(end("no " + name))
}

// function returns the function that a call with arguments means: one of the program, or that of the implementation for the first one.
func (r *teller) function(name string, args []thing) api.Tree {
	for _, k := range r.items {
		if k.Kind == api.KFn && k.Text == name {
			return k
		}
		if k.Kind != api.KImpl || len(args) == 0 || k.Kids[1].Text != args[0].of {
			continue
		}
		for _, f := range k.Kids[2:] {
			if f.Text == name {
				return f
			}
		}
	}
	panic(end("no " + name))
}

func (r *teller) call(name string, args []thing) thing {
	f := r.function(name, args)
	var vars *place
	for i, k := range f.Kids[1].Kids {
		vars = &place{k.Text, args[i], vars}
	}
	return r.value(f.Kids[3], vars)
}

func (r *teller) values(l []api.Tree, vars *place) []thing {
	var out []thing
	for _, k := range l {
		out = append(out, r.value(k, vars))
	}
	return out
}

func number(n int) thing { return thing{of: "int", n: n} }

func truth(b bool) thing { return thing{of: "bool", n: map[bool]int{true: 1}[b]} }

// value returns the value of an expr.
func (r *teller) value(t api.Tree, vars *place) thing {
	if r.steps++; r.steps > enough {
		panic(end("steps"))
	}
	switch t.Kind {
	case api.KInt:
		n, _ := strconv.Atoi(t.Text)
		return number(n)
	case api.KBool:
		return truth(t.Text == "true")
	case api.KUnit:
		return thing{of: "unit"}
	case api.KName:
		if v := vars.find(t.Text); v != nil {
			return v.is
		}
		return r.value(r.item(api.KConst, t.Text).Kids[1], nil)
	case api.KCall:
		return r.call(t.Text, r.values(t.Kids, vars))
	case api.KNew:
		return thing{of: t.Text, fields: r.values(t.Kids, vars)}
	case api.KDot:
		return r.field(r.value(t.Kids[0], vars), t.Text)
	case api.KUnary:
		v := r.value(t.Kids[0], vars)
		if t.Text == "!" {
			return truth(v.n == 0)
		}
		return number(0 - v.n)
	case api.KBinary:
		return r.binary(t, vars)
	case api.KIf:
		if r.value(t.Kids[0], vars).n == 1 {
			return r.value(t.Kids[1], vars)
		}
		return r.value(t.Kids[2], vars)
	}
	return r.block(t, vars)
}

func (r *teller) field(v thing, name string) thing {
	for i, k := range r.item(api.KType, v.of).Kids[1].Kids {
		if k.Text == name {
			return v.fields[i]
		}
	}
	panic(end("no field " + name))
}

func (r *teller) binary(t api.Tree, vars *place) thing {
	a := r.value(t.Kids[0], vars)
	if t.Text == "&&" && a.n == 0 || t.Text == "||" && a.n == 1 {
		return a
	}
	b := r.value(t.Kids[1], vars)
	if strings.Contains("/%", t.Text) && b.n == 0 {
		panic(end("division by zero"))
	}
	switch t.Text {
	case "+":
		return number(a.n + b.n)
	case "-":
		return number(a.n - b.n)
	case "*":
		return number(a.n * b.n)
	case "/":
		return number(a.n / b.n)
	case "%":
		return number(a.n % b.n)
	case "<":
		return truth(a.n < b.n)
	case "==":
		return truth(a.n == b.n)
	}
	return b
}

func (r *teller) block(t api.Tree, vars *place) thing {
	last := len(t.Kids) - 1
	for _, k := range t.Kids[:last] {
		if k.Kind == api.KWhile {
			for r.value(k.Kids[0], vars).n == 1 {
				r.value(k.Kids[1], vars)
			}
			continue
		}
		v := r.value(k.Kids[0], vars)
		switch k.Kind {
		case api.KLet:
			vars = &place{k.Text, v, vars}
		case api.KAssign:
			vars.find(k.Text).is = v
		case api.KPrint:
			r.prints = append(r.prints, strconv.Itoa(v.n))
		}
	}
	return r.value(t.Kids[last], vars)
}

// machine runs the code of instances, which it asks for when they are called.
type machine struct {
	program program
	codes   map[string]api.Code
	records [][]int
	prints  []string
	steps   int
}

// code returns the code with a symbol.
func (m *machine) code(sym string) api.Code {
	c, ok := m.codes[sym]
	if !ok {
		x, _ := types.Parse(sym)
		c, _ = m.program.code(x)
		m.codes[sym] = c
	}
	return c
}

// run returns what the code with a symbol returns. Registers that were not written are what nothing else is.
func (m *machine) run(sym string, args []int) int {
	c := m.code(sym)
	if c.Params != len(args) || c.Ops[0].Kind == api.OpGlobal && c.Ops[0].Sym == "" {
		panic(end("nothing with the symbol " + sym))
	}
	regs := append(slices.Clone(args), slices.Repeat([]int{-123456789}, c.Regs-c.Params)...)
	at := 0
	for {
		if m.steps++; m.steps > 20*enough {
			panic(end("steps"))
		}
		o := c.Ops[at]
		at++
		switch o.Kind {
		case api.OpJump:
			at = o.C
		case api.OpZero:
			if regs[o.B] == 0 {
				at = o.C
			}
		case api.OpReturn:
			return regs[o.B]
		case api.OpPrint:
			m.prints = append(m.prints, strconv.Itoa(regs[o.B]))
		default:
			regs[o.A] = m.result(o, regs)
		}
	}
}

// result returns what an operation writes.
func (m *machine) result(o api.Op, regs []int) int {
	var list []int
	for _, r := range o.List {
		list = append(list, regs[r])
	}
	switch o.Kind {
	case api.OpConst:
		return o.C
	case api.OpCall:
		return m.run(o.Sym, list)
	case api.OpGlobal:
		return m.run(o.Sym, nil)
	case api.OpNew:
		m.records = append(m.records, list)
		return len(m.records) - 1
	case api.OpLoad:
		return m.records[regs[o.B]][o.C]
	case api.OpCopy:
		return regs[o.B]
	case api.OpNot:
		return 1 - regs[o.B]
	case api.OpNeg:
		return -regs[o.B]
	}
	return m.two(o.Kind, regs[o.B], regs[o.C])
}

func (m *machine) two(kind, b, c int) int {
	if (kind == api.OpDiv || kind == api.OpRem) && c == 0 {
		panic(end("division by zero"))
	}
	switch kind {
	case api.OpSub:
		return b - c
	case api.OpMul:
		return b * c
	case api.OpDiv:
		return b / c
	case api.OpRem:
		return b % c
	case api.OpLess:
		return truth(b < c).n
	case api.OpEqual:
		return truth(b == c).n
	}
	return b + c
}

// outcome returns what a run printed, and its value or its end.
func outcome(prints *[]string, run func() int) (out string) {
	defer func() {
		if e, ok := recover().(end); ok {
			out = strings.Join(append(*prints, string(e)), " ")
		}
	}()
	value := strconv.Itoa(run())
	return strings.Join(append(*prints, "value "+value), " ")
}

// told returns what a program does as it is.
func told(p program) string {
	r := &teller{items: p.items}
	return outcome(&r.prints, func() int { return r.call("main", nil).n })
}

// made returns what the code of a program does, and the code that was run.
func made(p program) (string, map[string]api.Code) {
	m := &machine{program: p, codes: map[string]api.Code{}}
	return outcome(&m.prints, func() int { return m.run("p::main", nil) }), m.codes
}

// checkWays tests that no way leads out of a code, and none to a register that was not written.
func checkWays(t *testing.T, text, symbol string, c api.Code) {
	t.Helper()
	if out := leaves(c) + unwritten(c); out != "" {
		t.Errorf("%s: %s became %s: %s", text, symbol, showCode(c), out)
	}
}

func TestProgramsAreRunLikeTheirCode(t *testing.T) {
	for text, want := range map[string]string{
		"fn main() -> int { 1 + 2 * 3 - 8 / 3 % 2 }":                                                                    "value 7",
		"fn main() -> int { let x = 5; while 0 < x { print x; x = x - 2; } x }":                                         "5 3 1 value -1",
		"fn say(n: int) -> bool { print n; n < 3 } fn main() -> int { if say(1) && say(5) || say(2) { 7 } else { 8 } }": "1 5 2 value 7",
		"fn say(n: int) -> bool { print n; n < 3 } fn main() -> int { say(4) && say(1); say(2) || say(3); 0 }":          "4 2 value 0",
		"fn main() -> int { print 1; 1 / 0 }":                                                                           "1 division by zero",
		"fn main() -> int { print 7 % 0; 1 }":                                                                           "division by zero",
		"const c: int = 3 * d; const d: int = 2; fn main() -> int { c + d }":                                            "value 8",
		"fn f(n: int) -> int { if n < 2 { 1 } else { n * f(n - 1) } } fn main() -> int { f(6) }":                        "value 720",
		"type P<A, B> { a: A, b: B } fn swap<A, B>(p: P<A, B>) -> P<B, A> { new P(p.b, p.a) } fn main() -> int { let p = swap(swap(swap(new P(1, new P(2, 3))))); p.a.b * 10 + p.b }":                                                                                                                                                            "value 31",
		"trait S { fn show(s: Self) -> int; } impl S for int { fn show(s: int) -> int { s + 1 } } impl S for bool { fn show(s: bool) -> int { if s { 10 } else { 20 } } } type B<T> { x: T } impl<T: S> S for B<T> { fn show(s: B<T>) -> int { 100 + show(s.x) } } fn main() -> int { show(new B(new B(true))) + show(new B(5)) + show(false) }": "value 336",
		"fn main() -> int { let x = { let x = 1; x = x + 1; x }; { let x = 9; x = 8; }; print x; x = x + 1; x }":                                                                                                                                                                                                                                 "2 value 3",
	} {
		p := compile(t, text)
		if got := told(p); got != want {
			t.Errorf("%s: as it is: %s, expected %s", text, got, want)
		}
		got, codes := made(p)
		if got != want {
			t.Errorf("%s: its code: %s, expected %s", text, got, want)
		}
		for symbol, c := range codes {
			checkWays(t, text, symbol, c)
		}
	}
}

const library = `
	trait Show { fn show(s: Self) -> int; fn mix(s: Self, n: int) -> int; }
	impl Show for int { fn show(s: int) -> int { print s; s } fn mix(s: int, n: int) -> int { s * 3 + n } }
	impl Show for bool { fn show(s: bool) -> int { if s { print 1; 11 } else { 12 } } fn mix(s: bool, n: int) -> int { if s && n < 100 { n } else { 0 - n } } }
	impl Show for Nil { fn show(s: Nil) -> int { 7 } fn mix(s: Nil, n: int) -> int { n } }
	impl<A: Show, B: Show> Show for Pair<A, B> { fn show(s: Pair<A, B>) -> int { show(s.a) + show(s.b) * 2 } fn mix(s: Pair<A, B>, n: int) -> int { mix(s.b, mix(s.a, n)) } }
	impl<T: Show> Show for Box<T> { fn show(s: Box<T>) -> int { print 5; show(s.x) } fn mix(s: Box<T>, n: int) -> int { mix(s.x, n + 1) } }
	type Nil {}
	type Pair<A, B> { a: A, b: B }
	type Box<T> { x: T }
	const ten: int = { let i = 1; while i < 10 { i = i + i; } i - 6 };
	const yes: bool = ten == 10;
	const both: Pair<int, bool> = new Pair(ten * 2, !yes);
	fn id<T>(x: T) -> T { x }
	fn first<A, B>(p: Pair<A, B>) -> A { p.a }
	fn swap<A, B>(p: Pair<A, B>) -> Pair<B, A> { new Pair(p.b, p.a) }
	fn pick<T>(c: bool, x: T, y: T) -> T { if c { x } else { y } }
	fn most<T: Show>(x: T, y: T) -> T { if show(x) < show(y) { y } else { x } }
	fn sum(n: int) -> int { if n < 1 { 0 } else { n + sum(n - 1) } }
	fn times<T: Show>(x: T, n: int) -> int { let all = 0; let i = 0; while i < n { all = all + mix(x, i); i = i + 1; } all }
	`

// hidden is the type of a variable that another one with its name has hidden. No expression has it.
const hidden = "hidden"

// author writes programs in which each expression has a type that is known.
type author struct {
	*dice
	vars  []string
	are   []string
	count int
}

func (w *author) some() string {
	switch w.roll(6) {
	case 0:
		return "Pair<" + w.some() + "," + w.some() + ">"
	case 1:
		return "Box<" + w.pick("int", "bool", "Nil", "Pair<int,bool>") + ">"
	}
	return w.pick("int", "int", "int", "bool", "bool", "Nil")
}

// inner returns the types that a type is applied to.
func inner(text string) []string {
	var out []string
	x, _ := types.Parse(text)
	for _, k := range x.Args {
		out = append(out, types.Print(k))
	}
	return out
}

// expr returns an expression of a type.
func (w *author) expr(is string, depth int) string {
	if depth <= 0 {
		return w.leaf(is)
	}
	other := w.some()
	switch w.roll(11) {
	case 0:
		return "id(" + w.expr(is, depth-1) + ")"
	case 1:
		return "first(" + w.expr("Pair<"+is+","+other+">", depth-1) + ")"
	case 2:
		return "pick(" + w.expr("bool", depth-1) + ", " + w.expr(is, depth-1) + ", " + w.expr(is, depth-1) + ")"
	case 3:
		return "most(" + w.expr(is, depth-1) + ", " + w.expr(is, depth-1) + ")"
	case 4:
		return "if " + w.expr("bool", depth-1) + " " + w.block(is, depth-1) + " else " + w.block(is, depth-1)
	case 5:
		return w.block(is, depth-1)
	case 6:
		return w.pick("("+w.expr("Pair<"+is+","+other+">", depth-1)+").a", "("+w.expr("Pair<"+other+","+is+">", depth-1)+").b", "("+w.expr("Box<"+is+">", depth-1)+").x")
	}
	return w.own(is, depth)
}

// own returns an expression that only a value of a type has.
func (w *author) own(is string, depth int) string {
	args := inner(is)
	switch {
	case is == "int":
		return w.integer(depth)
	case is == "bool":
		sign := w.pick("&&", "||", "&&", "||", "<", "==")
		operand := map[bool]string{true: "bool", false: "int"}[sign == "&&" || sign == "||"]
		return w.pick("!("+w.expr(is, depth-1)+")", "(("+w.expr(operand, depth-1)+") "+sign+" ("+w.expr(operand, depth-1)+"))", "(("+w.expr(operand, depth-1)+") "+sign+" ("+w.expr(operand, depth-1)+"))")
	case len(args) == 2:
		return w.pick("new Pair("+w.expr(args[0], depth-1)+", "+w.expr(args[1], depth-1)+")", "swap("+w.expr("Pair<"+args[1]+","+args[0]+">", depth-1)+")")
	case len(args) == 1:
		return "new Box(" + w.expr(args[0], depth-1) + ")"
	}
	return w.leaf(is)
}

func (w *author) integer(depth int) string {
	switch w.roll(6) {
	case 0:
		return "show(" + w.expr(w.some(), depth-1) + ")"
	case 1:
		return "sum((" + w.expr("int", depth-1) + ") % 7)"
	case 2:
		return "times(" + w.expr(w.some(), depth-1) + ", " + w.pick("0", "1", "3") + ")"
	case 3:
		return "-(" + w.expr("int", depth-1) + ")"
	}
	return "((" + w.expr("int", depth-1) + ") " + w.pick("+", "-", "*", "+", "-", "*", "/", "%") + " (" + w.expr("int", depth-1) + "))"
}

// leaf returns an expression of a type, as short as there is one.
func (w *author) leaf(is string) string {
	for range 4 {
		if len(w.vars) == 0 {
			break
		}
		if i := w.roll(len(w.vars)); w.are[i] == is {
			return w.vars[i]
		}
	}
	args := inner(is)
	switch {
	case is == "int":
		return w.pick("1", "2", "7", "10", "ten", "both.a")
	case is == "bool":
		return w.pick("true", "false", "yes", "both.b")
	case len(args) == 2:
		return "new Pair(" + w.leaf(args[0]) + ", " + w.leaf(args[1]) + ")"
	case len(args) == 1:
		return "new Box(" + w.leaf(args[0]) + ")"
	}
	return "new Nil()"
}

// block returns a block with statements, whose variables end with it.
func (w *author) block(is string, depth int) string {
	known := len(w.vars)
	s := "{ "
	for range w.roll(4) {
		s += w.statement(depth)
	}
	s += w.expr(is, depth) + " }"
	w.vars, w.are = w.vars[:known], w.are[:known]
	return s
}

func (w *author) statement(depth int) string {
	kind := w.roll(6)
	if i := w.roll(len(w.vars) + 1); kind == 0 && i < len(w.vars) && w.are[i] != hidden {
		return w.vars[i] + " = " + w.expr(w.are[i], depth) + "; "
	}
	w.count++
	switch kind {
	case 1:
		return "print " + w.expr("int", depth) + "; "
	case 2:
		return "(" + w.expr(w.some(), depth) + "); "
	case 3:
		i := "i" + strconv.Itoa(w.count)
		return "let " + i + " = 0; while " + i + " < " + w.pick("0", "1", "2", "3") + " { " + i + " = " + i + " + 1; " + w.expr(w.some(), depth-1) + "; } "
	}
	is := w.some()
	name := w.pick("a", "b", "c", "v"+strconv.Itoa(w.count)) // names can hide others
	s := "let " + name + " = " + w.expr(is, depth) + "; "
	for i, other := range w.vars {
		if other == name {
			w.are[i] = hidden
		}
	}
	w.vars, w.are = append(w.vars, name), append(w.are, is)
	return s
}

func TestGeneratedPrograms(t *testing.T) {
	t.Parallel()
	ends := map[string]int{}
	longest := 0
	for seed := range 1500 {
		w := &author{dice: &dice{uint64(seed + 150)}}
		text := library + "fn main() -> int " + w.block("int", 2+w.roll(3))
		if len(text) > api.MaxText {
			continue
		}
		p := compile(t, text)
		if l := p.typed["p::main"].Diags; len(l) > 0 {
			t.Fatalf("%s has the diagnostics %v", text, l)
		}
		want := told(p)
		got, codes := made(p)
		for symbol, c := range codes {
			checkWays(t, text, symbol, c)
		}
		if strings.HasSuffix(want, "steps") || strings.HasSuffix(got, "steps") {
			ends["steps"]++
			continue
		}
		if got != want {
			t.Fatalf("%s: as it is: %s\nits code: %s", text, want, got)
		}
		ends[map[bool]string{true: "zero", false: "value"}[strings.HasSuffix(want, "zero")]]++
		longest = max(longest, strings.Count(want, " "))
	}
	if ends["value"] < 1000 || ends["zero"] == 0 || longest < 40 {
		t.Errorf("%v, at most %d prints", ends, longest)
	}
}

// In programs with errors each variable that is left has its register, too.
func TestGeneratedProgramsWithErrors(t *testing.T) {
	t.Parallel()
	d := &dice{151}
	without := 0
	for seed := range 1000 {
		w := &author{dice: &dice{uint64(seed + 2000)}}
		parts := strings.Split("fn main() -> int "+w.block("int", 2+w.roll(3)), " ")
		wrong := strings.NewReplacer("id(", "nothing(", "Pair(", "Box(", "ten", "tens", "yes", "no", "most(", "times(", ").a", ").x", "both.b", "none.b", "v", "u")
		for range 20 + d.roll(60) {
			i := d.roll(len(parts))
			parts[i] = wrong.Replace(parts[i])
		}
		text := library + strings.Join(parts, " ")
		if _, errors := parser.Module(text); len(errors) > 0 {
			continue
		}
		p := compile(t, text)
		c, _ := p.code(ty("p::main"))
		checkWays(t, text, "p::main", c)
		if len(p.typed["p::main"].Diags) > 0 {
			without += strings.Count(showCode(c), "= global,")
		}
	}
	if without < 200 {
		t.Errorf("only %d values are missing", without)
	}
}
