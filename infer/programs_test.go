package infer_test

import (
	"slices"
	"strconv"
	"strings"
	"testing"

	"recompile/api"
)

func TestProgram(t *testing.T) {
	p := compile(t, `
		trait Show { fn show(s: Self) -> int; }
		trait Less: Show { fn less(a: Self, b: Self) -> bool; fn least() -> Self; }
		impl Show for int { fn show(s: int) -> int { s } }
		impl<A: Show, B: Less> Show for Pair<A, B> { fn show(s: Pair<A, B>) -> int { let n = show(s.a); n + show(s.b) * show(s) } }
		type Pair<A: Show, B> { a: A, b: B }
		type Nil {}
		const ten: int = { let i = 1; while i < 10 { i = i + i; } show(i) };
		const pair: Pair<int, bool> = new Pair(ten, !true);
		const wrong: Pair<int, bool> = new Pair(true, pair.c);
		fn id<T>(x: T) -> T { x }
		fn one() -> int { id(1) + 1 }
		fn swap<A: Show, B: Less>(p: Pair<A, B>) -> Pair<B, A> { new Pair(p.b, p.a) }
		fn most<T: Less>(a: T, b: T) -> T { if less(a, b) { b } else { print show(a); a } }
		fn twice(p: Pair<Nil, int>) -> int { let q = swap(swap(p)); let n = least(); print n; q.b + n }
		fn open() { let x = least(); let y = show(x); id(x).a; }
		fn bad(x: int) -> bool { let y = unknown(x); y.z; most(y, x) + y; most(x); x() && one }`)
	for name, c := range map[string]struct{ body, diags, goals string }{
		"impl Show for int.show":       {"block(local s@0)", "", ""},
		"impl Show for Pair[A;B].show": {"block(let n@1(call p::show<$A>(dot 0(local s@0))), binary +(local n@1, binary *(call p::show<$B>(dot 1(local s@0)), call p::show<p::Pair<$A,$B>>(local s@0))))", "", "p::Show $p::Show@14, p::Show $p::Less@20, p::Show p::Pair<$p::Show,$p::Less>@23"},
		"ten":                          {"block(let i@0(int 1), while(binary <(local i@0, int 10), block(assign i@0(binary +(local i@0, local i@0)), unit)), call p::show<int>(local i@0))", "", "p::Show int@15"},
		"pair":                         {"new p::Pair<int,bool>(global p::ten, unary !(bool true))", "", "p::Show int@4"},
		"wrong":                        {"new p::Pair<bool,error>(bool true, bad c(global p::pair))", "10@6 c, 9@4", "p::Show bool@4"},
		"id":                           {"block(local x@0)", "", ""},
		"one":                          {"block(binary +(call p::id<int>(int 1), int 1))", "", ""},
		"swap":                         {"block(new p::Pair<$B,$A>(dot 1(local p@0), dot 0(local p@0)))", "", "p::Show $p::Less@15"},
		"most":                         {"block(if(call p::less<$T>(local a@0, local b@1), block(local b@1), block(print(call p::show<$T>(local a@0)), local a@0)))", "", "p::Less $p::Less@12, p::Show $p::Less@19"},
		"twice":                        {"block(let q@1(call p::swap<int,p::Nil>(call p::swap<p::Nil,int>(local p@0))), let n@2(call p::least<int>), print(local n@2), binary +(dot 1(local q@1), local n@2))", "", "p::Show p::Nil@11, p::Less int@11, p::Show int@10, p::Less p::Nil@10, p::Less int@14"},
		"open":                         {"block(let x@0(call p::least<error>), let y@1(call p::show<error>(local x@0)), do(bad a(call p::id<error>(local x@0))), unit)", "11@11 a, 11@6 p::least, 11@8 p::show, 11@12 p::id", "p::Less error@6, p::Show error@8"},
		"bad":                          {"block(let y@1(bad unknown(local x@0)), do(bad z(local y@1)), do(binary +(call p::most<error>(local y@1, local x@0), local y@1)), do(bad p::most(local x@0)), binary &&(bad x, global p::one))", "8@20 p::most, 7@24 p::one", "p::Less error@15"},
	} {
		got := p.body(name)
		last := got.Tree.Kids[len(got.Tree.Kids)-1]
		if show(last) != c.body || showDiags(got.Diags) != c.diags || showGoals(got) != c.goals {
			t.Errorf("%s: %s, with %s, goals %s\nwanted: %s, with %s, goals %s", name, show(last), showDiags(got.Diags), showGoals(got), c.body, c.diags, c.goals)
		}
		compare(t, p.trees[name], p.known)
	}
}

// Calls and new records whose types cannot be found out, or are too many, stay what they are, and so do the fields of these records; only a KDot of a variable becomes a KBad.
func TestProgramWithOpenTypes(t *testing.T) {
	text := "fn any<T>() -> T { any() } fn none<T>() -> P<T> { none() } type P<T> {} type E<T> {} type Pair<T, U> { x: T, y: U }"
	text += " fn f() -> int { none(); 1 } fn g() -> int { any().a } fn h() -> int { new E(); let x = new Pair(1, any()); x.x }"
	one, pairs, lets := "int", "let a0 = 1;", "let a0@0(int 1)"
	for i := range 7 {
		before, name := "a"+strconv.Itoa(i), "a"+strconv.Itoa(i+1)
		pairs += " let " + name + " = new Pair(" + before + ", " + before + ");"
		before += "@" + strconv.Itoa(i)
		lets += ", let " + name + "@" + strconv.Itoa(i+1) + "(new p::Pair<" + one + "," + one + ">(local " + before + ", local " + before + "))"
		one = "p::Pair<" + one + "," + one + ">"
	}
	p := compile(t, text+" fn k() -> int { "+pairs+" 1 } fn l() -> int { "+pairs+" a7.x; 1 } fn m() -> bool { "+pairs+" a7.y.x.y.y.x.x.y }")
	for name, want := range map[string]struct{ body, diags string }{
		"f": {"block(do(call p::none<error>), int 1)", "11@6 p::none"},
		"g": {"block(bad a(call p::any<error>))", "11@5 a, 11@6 p::any"},
		"h": {"block(do(new p::E<error>), let x@0(new p::Pair<int,error>(int 1, call p::any<error>)), dot 0(local x@0))", "11@6 p::E, 11@8 p::Pair, 11@10 p::any"},
		"k": {"block(" + lets + ", int 1)", "11@32 p::Pair"},
		"l": {"block(" + lets + ", do(dot 0(local a7@7)), int 1)", "11@32 p::Pair"},
		"m": {"block(" + lets + ", dot 1(dot 0(dot 0(dot 1(dot 1(dot 0(dot 1(local a7@7))))))))", "9@4, 11@32 p::Pair"},
	} {
		got := p.body(name)
		if show(got.Tree.Kids[3]) != want.body || showDiags(got.Diags) != want.diags {
			t.Errorf("%s: %s, with %s\nwanted: %s, with %s", name, show(got.Tree.Kids[3]), showDiags(got.Diags), want.body, want.diags)
		}
		compare(t, p.trees[name], p.known)
	}
}

// typedText is an expression of a generated program: its text, what Body makes of it, and its goals.
type typedText struct {
	text, want string
	goals      []string
}

// writer writes expressions of types that are known. What is wanted is written with the types by which they were made, before anything is inferred.
type writer struct {
	*dice
	vars  []string // the names of variables
	are   []api.Type
	count int
	plain bool // each parameter is the type of an argument
}

// leafTypes are the types of which expressions are written; T is the own parameter of their functions, with the bound p::Show.
func leafTypes() []string { return []string{"int", "int", "bool", "$T", "p::Nil"} }

func (w *writer) some() api.Type {
	if w.roll(4) == 0 {
		return ty("p::Pair", w.some(), w.some())
	}
	if w.roll(5) == 0 {
		return ty("p::Box", w.some())
	}
	return ty(w.pick(leafTypes()...))
}

func join(l []typedText, by string) (texts, wants string, goals []string) {
	var a, b []string
	for _, x := range l {
		a, b, goals = append(a, x.text), append(b, x.want), append(goals, x.goals...)
	}
	return strings.Join(a, by), strings.Join(b, ", "), goals
}

// call returns a call of a function, or a new record, with the types of its parameters and those parameters that have a bound.
func call(word, name string, params []api.Type, bounds string, kids ...typedText) typedText {
	texts, wants, goals := join(kids, ", ")
	out := typedText{text: strings.TrimPrefix(word+" ", "call ") + name + "(" + texts + ")", want: word + " p::" + name}
	out.want += showType(ty("", params...))
	if len(kids) > 0 {
		out.want += "(" + wants + ")"
	}
	for i, b := range strings.Fields(bounds) {
		if b != "-" {
			goals = append(goals, "p::"+b+" "+strings.ReplaceAll(showType(params[i]), "$T", "$p::Show"))
		}
	}
	out.goals = goals
	return out
}

// node returns a node of several expressions, whose texts stand in the place of each # of a pattern.
func node(word, pattern string, kids ...typedText) typedText {
	_, wants, goals := join(kids, "")
	parts := strings.Split(pattern, "#")
	text := parts[0]
	for i, k := range kids[:len(parts)-1] {
		text += k.text + parts[i+1]
	}
	return typedText{text: text, want: word + "(" + wants + ")", goals: goals}
}

// expr returns an expression of a type. Where its type is known from what is around it (from is true), it can be one that has no type of its own.
func (w *writer) expr(t api.Type, from bool, depth int) typedText {
	if depth <= 0 {
		return w.leaf(t, from)
	}
	kind := w.roll(9)
	if w.plain && kind == 1 {
		kind = 0
	}
	switch kind {
	case 0:
		return call("call", "id", []api.Type{t}, "-", w.expr(t, from, depth-1))
	case 1:
		other := w.some()
		return call("call", "first", []api.Type{t, other}, "- Show", w.expr(ty("p::Pair", t, other), false, depth-1))
	case 2:
		return call("call", "pick", []api.Type{t}, "Show", w.expr(ty("bool"), true, depth-1), w.expr(t, from, depth-1), w.expr(t, true, depth-1))
	case 3:
		return w.field(t, depth-1)
	case 4:
		return node("if", "if # { # } else { # }", w.expr(ty("bool"), true, depth-1), w.boxed(t, from, depth-1), w.boxed(t, true, depth-1))
	case 5:
		return w.block(t, from, depth-1)
	}
	return w.own(t, from, depth)
}

// boxed returns an expression as a block.
func (w *writer) boxed(t api.Type, from bool, depth int) typedText {
	return node("block", "#", w.expr(t, from, depth))
}

// field returns an expression that takes a field of a record.
func (w *writer) field(t api.Type, depth int) typedText {
	other := w.some()
	switch w.roll(3) {
	case 0:
		return node("dot 0", "#.a", w.expr(ty("p::Pair", t, other), false, depth))
	case 1:
		return node("dot 1", "#.b", w.expr(ty("p::Pair", other, t), false, depth))
	}
	return node("dot 0", "#.x", w.expr(ty("p::Box", t), false, depth))
}

// own returns an expression that only a value of a type has.
func (w *writer) own(t api.Type, from bool, depth int) typedText {
	switch t.Name {
	case "int":
		if w.roll(4) == 0 {
			return call("call", "show", []api.Type{ty("bool")}, "Show", w.expr(ty("bool"), false, depth-1))
		}
		sign := w.pick("+", "-", "*", "/", "%")
		return node("binary "+sign, "((#) "+sign+" (#))", w.expr(t, true, depth-1), w.expr(t, true, depth-1))
	case "bool":
		if w.roll(3) == 0 {
			return node("unary !", "(!(#))", w.expr(t, true, depth-1))
		}
		sign, operand := w.pick("&&", "||"), t
		if w.roll(2) == 0 {
			sign, operand = w.pick("<", "=="), ty("int")
		}
		return node("binary "+sign, "((#) "+sign+" (#))", w.expr(operand, true, depth-1), w.expr(operand, true, depth-1))
	case "p::Pair":
		if w.roll(3) == 0 && !w.plain {
			return call("call", "swap", []api.Type{t.Args[1], t.Args[0]}, "- -", w.expr(ty("p::Pair", t.Args[1], t.Args[0]), from, depth-1))
		}
		return call("new", "Pair", t.Args, "Show -", w.expr(t.Args[0], from, depth-1), w.expr(t.Args[1], from, depth-1))
	case "p::Box":
		return call("new", "Box", t.Args, "-", w.expr(t.Args[0], from, depth-1))
	}
	return w.leaf(t, from)
}

// leaf returns an expression of a type without others in it, as far as there is one.
func (w *writer) leaf(t api.Type, from bool) typedText {
	if from && w.roll(4) == 0 && !w.plain {
		return call("call", "make", []api.Type{t}, "Show")
	}
	for range 4 {
		if i := w.roll(len(w.vars)); equal(w.are[i], t) {
			return typedText{text: w.vars[i], want: "local " + w.vars[i]}
		}
	}
	switch t.Name {
	case "int":
		return typedText{text: "7", want: "int 7"}
	case "bool":
		return typedText{text: "true", want: "bool true"}
	case "$T":
		return typedText{text: "t", want: "local t"}
	case "p::Nil":
		return call("new", "Nil", nil, "")
	case "p::Box":
		return call("new", "Box", t.Args, "-", w.leaf(t.Args[0], from))
	}
	return call("new", "Pair", t.Args, "Show -", w.leaf(t.Args[0], from), w.leaf(t.Args[1], from))
}

// block returns a block with statements.
func (w *writer) block(t api.Type, from bool, depth int) typedText {
	known := len(w.vars)
	var l []typedText
	for range 1 + w.roll(3) {
		x := w.some()
		switch i := w.roll(len(w.vars)); w.roll(5) {
		case 0:
			l = append(l, node("print", "print #;", w.expr(ty("int"), true, depth)))
		case 1:
			l = append(l, node("assign "+w.vars[i], w.vars[i]+" = #;", w.expr(w.are[i], true, depth)))
		case 2:
			l = append(l, node("while", "while # #", w.expr(ty("bool"), true, depth), typedText{text: "{ }", want: "block(unit)"}))
		case 3:
			l = append(l, node("do", "(#);", w.expr(x, false, depth)))
		default:
			w.count++
			name := "v" + strconv.Itoa(w.count)
			l = append(l, node("let "+name, "let "+name+" = #;", w.expr(x, false, depth)))
			w.vars, w.are = append(w.vars, name), append(w.are, x)
		}
	}
	l = append(l, w.expr(t, from, depth))
	w.vars, w.are = w.vars[:known], w.are[:known]
	texts, wants, goals := join(l, " ")
	return typedText{text: "{ " + texts + " }", want: "block(" + wants + ")", goals: goals}
}

// library are the definitions that generated programs use.
const library = `
	trait Show { fn show(s: Self) -> int; }
	type Nil {}
	type Pair<A: Show, B> { a: A, b: B }
	type Box<T> { x: T }
	fn id<T>(x: T) -> T { x }
	fn first<A, B: Show>(p: Pair<A, B>) -> A { p.a }
	fn swap<A, B>(p: Pair<A, B>) -> Pair<B, A> { new Pair(p.b, p.a) }
	fn pick<T: Show>(c: bool, x: T, y: T) -> T { if c { x } else { y } }
	fn make<T: Show>() -> T { make() }
	`

// newWriter returns a writer that knows the arguments t, i and p of a function.
func newWriter(seed int) *writer {
	return &writer{dice: &dice{uint64(seed)}, vars: []string{"t", "i", "p"}, are: []api.Type{ty("$T"), ty("int"), typed("p::Pair<$T,p::Box<bool>>")}}
}

// source writes a type as it stands in a program.
func source(t api.Type) string { return strings.NewReplacer("$", "", "p::", "").Replace(showType(t)) }

// function returns the text of a function f with a body of a type.
func (w *writer) function(t api.Type, body string) string {
	return "fn f<T: Show>(t: T, i: int, p: Pair<T, Box<bool>>) -> " + source(t) + " { " + body + " }"
}

// withoutNumbers returns a text without the numbers of variables.
func withoutNumbers(s string) string {
	parts := strings.Split(s, "@")
	for i := 1; i < len(parts); i++ {
		parts[i] = strings.TrimLeft(parts[i], "0123456789")
	}
	return strings.Join(parts, "")
}

// goalTexts are goals without their places.
func goalTexts(x api.Inferred) []string {
	var out []string
	for _, g := range x.Goals {
		out = append(out, g.Trait+" "+showType(g.Type))
	}
	return out
}

func TestGeneratedPrograms(t *testing.T) {
	t.Parallel()
	longest := 0
	for seed := range 1500 {
		w := newWriter(seed)
		result := w.some()
		body := w.block(result, true, 1+w.roll(5))
		p := compile(t, library+w.function(result, body.text))
		got := p.body("f")
		if len(got.Diags) > 0 || withoutNumbers(show(got.Tree.Kids[3])) != "block("+body.want+")" || !slices.Equal(goalTexts(got), body.goals) {
			t.Fatalf("%s became\n%s, with %s, goals %s\nwanted: %s, goals %s", body.text, show(got.Tree), showDiags(got.Diags), showGoals(got), body.want, body.goals)
		}
		longest = max(longest, len(body.goals))
		if seed%10 == 0 && len(body.text) < 1500 {
			compare(t, p.trees["f"], p.known)
		}
	}
	if longest < 100 {
		t.Errorf("the programs have at most %d goals", longest)
	}
}
