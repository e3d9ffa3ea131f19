package evaluate_test

import (
	"slices"
	"strconv"
	"testing"

	"recompile/api"
	"recompile/infer"
	"recompile/lower"
	"recompile/modules"
	"recompile/parser"
	"recompile/resolve"
	"recompile/shape"
	"recompile/signature"
	"recompile/types"
)

// program is the module p after inference.
type program struct {
	typed map[string]api.Tree
	known map[string]api.Signature
}

// inferred returns the module p with a text.
func inferred(t *testing.T, text string) program {
	t.Helper()
	items, errors := parser.Module(text)
	if len(errors) > 0 {
		t.Fatalf("%s has errors at %v", text, errors)
	}
	p := program{map[string]api.Tree{}, map[string]api.Signature{}}
	binds := modules.Step("p", modules.Names(items), nil)
	var known []api.Known
	for _, name := range modules.Names(items) {
		item, _ := modules.Item(items, name)
		tree := resolve.Resolve(shape.Number(item), binds).Tree
		def := "p::" + name
		p.typed[def], p.known[def] = tree, signature.Of(def, tree)
		known = append(known, api.Known{Def: def, Sig: p.known[def]})
	}
	for def, tree := range p.typed {
		p.typed[def] = infer.Body(tree, known).Tree
	}
	return p
}

// code returns the code of an instance, and the symbols that it calls. Calls of functions of traits have no target.
func (p program) code(sym string) (api.Code, []string) {
	x, _ := types.Parse(sym)
	var names, calls []string
	for _, param := range p.known[x.Name].Params {
		names = append(names, param.Name)
	}
	var targets []api.Equation
	for _, c := range lower.Calls(p.typed[x.Name], names, x.Args) {
		if p.known[c.Name].Kind == api.SigFn {
			targets, calls = append(targets, api.Equation{A: c, B: c}), append(calls, types.Print(c))
		}
	}
	return lower.Body(p.typed[x.Name], names, x.Args, targets), calls
}

// units returns the code of instances and of all that they call.
func (p program) units(syms ...string) []api.Unit {
	var out []api.Unit
	seen := map[string]bool{}
	for len(syms) > 0 {
		sym := syms[0]
		syms = syms[1:]
		if seen[sym] {
			continue
		}
		seen[sym] = true
		code, calls := p.code(sym)
		out, syms = append(out, api.Unit{Sym: sym, Code: code}), append(syms, calls...)
	}
	return out
}

// compiled returns the run of p::main. The constants are computed one after the other, each with those before it.
func compiled(t *testing.T, text string, constants ...string) job {
	t.Helper()
	p := inferred(t, text)
	j := job{units: p.units(append(constants, "p::main")...), steps: api.MaxSteps}
	for _, j.sym = range constants {
		out := j.compare(t)
		j.values = append(j.values, api.Value{Sym: j.sym, Has: out.Trap == api.TrapNone && len(out.Prints) == 0, Int: out.Value})
	}
	j.sym = "p::main"
	for _, u := range j.units {
		checkSound(t, u.Code, true)
	}
	return j
}

func TestPrograms(t *testing.T) {
	for text, want := range map[string]string{
		"fn main() -> int { 1 + 2 * 3 - 8 / 3 % 2 }":                                                                                                                                  "value 7",
		"fn main() -> int { let x = 5; while 0 < x { print x; x = x - 2; } x }":                                                                                                       "5 3 1 value -1",
		"fn say(n: int) -> bool { print n; n < 3 } fn main() -> int { if say(1) && say(5) || say(2) { 7 } else { 8 } }":                                                               "1 5 2 value 7",
		"fn f(n: int) -> int { if n < 2 { 1 } else { n * f(n - 1) } } fn main() -> int { f(21) }":                                                                                     "value -4249290049419214848",
		"fn f(n: int) -> int { if n == 0 { 0 } else { 1 + f(n - 1) } } fn main() -> int { print f(198); f(199) }":                                                                     "198 frames",
		"type P<A, B> { a: A, b: B } fn swap<A, B>(p: P<A, B>) -> P<B, A> { new P(p.b, p.a) } fn main() -> int { let p = swap(swap(swap(new P(1, new P(2, 3))))); p.a.b * 10 + p.b }": "value 31",
		"fn main() -> int { print 1; 1 / 0 }":                                                                                                                                         "1 zero",
		"fn main() -> int { print 7 % (3 - 3); 1 }":                                                                                                                                   "zero",
		"fn main() -> int { while true { } 1 }":                                                                                                                                       "steps",
		"fn main() -> int { main() }":                                                                                                                                                 "frames",
		"fn main() -> int { print 2; nothing }":                                                                                                                                       "2 const",
		"fn main() -> int { print 2; nothing(1) }":                                                                                                                                    "2 const",
		"trait S { fn show(s: Self) -> int; } fn main() -> int { print 2; show(1) }":                                                                                                  "2 link",
		"type P { a: int } fn main() -> int { let i = 0; while i < 10000 { new P(i); i = i + 1; } print i; new P(i).a }":                                                              "10000 cells",
		"type P { a: int, b: int } fn main() -> int { let i = 0; let s = 0; while i < 6666 { s = s + new P(i, 2 * i).b; i = i + 1; } s }":                                             "value 44428890",
		"fn main() -> int { -1 * (0 - 1) }":                                                                                                                                           "value 1",
	} {
		compiled(t, text).check(t, want)
	}
	compiled(t, "const c: int = 3 * d; const d: int = 2; fn main() -> int { c + d }", "p::d", "p::c").check(t, "value 8")
	compiled(t, "const c: int = 3 * d; const d: int = 2 / 0; fn main() -> int { print 1; c }", "p::d", "p::c").check(t, "1 const")
}

const library = `
	trait Show { fn show(s: Self) -> int; }
	type Pair<A, B> { a: A, b: B }
	type Box<T> { x: T }
	const ten: int = { let i = 1; while i < 10 { i = i + i; } i - 6 };
	const large: int = 999999999999999999 * ten;
	const none: int = ten / (ten - 10);
	fn id<T>(x: T) -> T { x }
	fn swap<A, B>(p: Pair<A, B>) -> Pair<B, A> { new Pair(p.b, p.a) }
	fn pick<T>(c: bool, x: T, y: T) -> T { if c { x } else { y } }
	fn say(n: int) -> bool { print n; n < 3 }
	fn sum(n: int) -> int { if n < 1 { 0 } else { n + sum(n - 1) } }
	fn times(n: int, x: int) -> int { let all = 0; while 0 < n { all = all + x * n; n = n - 1; } all }
	fn boxed<T>(n: int, x: T) -> T { if n < 1 { x } else { boxed(n - 1, new Box(x).x) } }
	`

// expr writes an expression that is a number.
func (d *dice) expr(depth int) string {
	if depth < 1 {
		return d.pick("0", "1", "2", "7", "ten", "large", "none", "x", "y", "x", "y", "sum(5)", "times(3, 4)")
	}
	a, b, c := d.expr(depth-1), d.expr(depth-2), d.expr(depth-d.roll(3)-1)
	switch d.roll(14) {
	case 0:
		return "if " + a + " < " + b + " { " + c + " } else { print " + b + "; " + a + " }"
	case 1:
		return "{ print " + a + "; let x = " + b + "; x = x + 1; " + c + " }"
	case 2:
		return "id(new Pair(" + a + ", " + b + " < 2)).a"
	case 3:
		return "swap(swap(swap(new Pair(" + a + ", new Pair(" + b + ", " + c + "))))).a." + d.pick("a", "b")
	case 4:
		return "pick(say(" + a + ") " + d.pick("&&", "||") + " !say(" + b + "), " + a + ", " + c + ")"
	case 5:
		return "{ let i = 0; while i < 3 && !(y < i) { y = " + b + "; i = i + 1; } i + " + a + " }"
	case 6:
		return "sum((" + a + ") % 30)"
	case 7:
		return d.pick("-(", "times(3, ", "boxed(4, ", "boxed(1, ") + a + ")"
	}
	return "(" + a + ") " + d.pick("+", "-", "*", "+", "-", "*", "/", "%") + " (" + b + ")"
}

func (d *dice) program() string {
	return library + "fn main() -> int { let x = " + strconv.Itoa(d.roll(9)) + "; let y = 3; " + d.pick("", "", "", "", "", "", "", "", "", "print show(1); ", "print nothing; ", "print sum(250); ", "print 1 % (x - x); ", "while 0 < 1 { x = x + 1; } ") + d.expr(2+d.roll(4)) + " }"
}

// The code of generated programs is sound, is never bad, and is run as the second reading says, with every number of steps.
func TestGeneratedPrograms(t *testing.T) {
	t.Parallel()
	d := &dice{164}
	ends := map[int]int{}
	long := 0
	for range 800 {
		text := d.program()
		if len(text) > api.MaxText {
			continue
		}
		j := compiled(t, text, "p::ten", "p::large", "p::none")
		got := j.run()
		want, r := j.readWith()
		if showOutcome(got) != showOutcome(want) || got.Trap == api.TrapBad {
			t.Fatalf("%s\ngives %q, expected %q", text, showOutcome(got), showOutcome(want))
		}
		numbers := []int{-1, 0, 1, 2, 3, r.made / 3, r.made / 2, r.made - 2, r.made - 1, r.made, r.made + 1, r.made + 2, 2 * r.made, api.MaxSteps + 1}
		slices.Sort(numbers)
		checkMoreSteps(t, j, numbers)
		slices.Reverse(j.units)
		if j.steps = api.MaxSteps; showOutcome(j.run()) != showOutcome(got) {
			t.Fatalf("%s\ngives %q, but %q with its units in another order", text, showOutcome(got), showOutcome(j.run()))
		}
		ends[got.Trap]++
		if r.made > 100 {
			long++
		}
	}
	for _, trap := range []int{api.TrapNone, api.TrapZero, api.TrapSteps, api.TrapFrames, api.TrapConst, api.TrapLink} {
		if ends[trap] < 15 {
			t.Errorf("%d programs end with %q", ends[trap], trapNames[trap])
		}
	}
	if long < 200 {
		t.Errorf("only %d programs are long", long)
	}
}

// The value of a constant is that of the code of its definition, with the values of others.
func TestConstantsOfPrograms(t *testing.T) {
	j := compiled(t, library+"fn main() -> int { ten }", "p::ten", "p::large", "p::none")
	j.steps = api.ConstSteps
	for sym, want := range map[string]string{"p::ten": "value 10", "p::large": "value -8446744073709551626", "p::none": "zero", "p::main": "value 10"} {
		j.sym = sym
		j.check(t, want)
	}
	j.values = nil
	for sym, want := range map[string]string{"p::ten": "value 10", "p::large": "const", "p::none": "const", "p::main": "const"} {
		j.sym = sym
		j.check(t, want)
	}
}
