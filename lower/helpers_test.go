package lower_test

import (
	"fmt"
	"slices"
	"strconv"
	"strings"
	"testing"

	"recompile/api"
	"recompile/fact"
	"recompile/lower"
	"recompile/shape"
)

// words are the names of the kinds of nodes in the trees of these tests.
var words = map[int]string{
	0: "zero", api.KUse: "use", api.KPubUse: "pubuse", api.KConst: "const", api.KFn: "fn", api.KType: "record", api.KTrait: "trait", api.KImpl: "impl", api.KMacro: "macro", api.KSig: "sig",
	api.KParams: "params", api.KParam: "param", api.KArgs: "args", api.KArg: "arg", api.KSupers: "supers", api.KTypeOf: "type", api.KInt: "int", api.KBool: "bool", api.KName: "name",
	api.KCall: "call", api.KExpand: "expand", api.KNew: "new", api.KDot: "dot", api.KUnary: "unary", api.KBinary: "binary", api.KIf: "if", api.KBlock: "block", api.KUnit: "unit",
	api.KLet: "let", api.KAssign: "assign", api.KWhile: "while", api.KPrint: "print", api.KDo: "do", api.KLocal: "local", api.KGlobal: "global", api.KBad: "bad", api.KModule: "module",
}

// of reads a tree, as "call p::f<int>(local x@0, binary +(int 1, int 2))". The places are the numbers of the nodes.
func of(text string) api.Tree {
	t, rest := cut(text)
	if rest != "" {
		panic(text + " goes on with " + rest)
	}
	return shape.Number(t)
}

// cut reads the tree with which a text begins, and returns what is behind it. A comma in "<" and ">" belongs to a Text.
func cut(text string) (api.Tree, string) {
	end, open := 0, 0
	for end < len(text) && (open > 0 || !strings.ContainsRune("(),", rune(text[end]))) {
		switch text[end] {
		case '<':
			open++
		case '>':
			open--
		}
		end++
		if strings.HasPrefix(text, "binary <") {
			open = 0
		}
	}
	word, name, _ := strings.Cut(text[:end], " ")
	t, rest := api.Tree{Kind: -1, Text: name}, text[end:]
	for kind, w := range words {
		if w == word {
			t.Kind = kind
		}
	}
	if t.Kind < 0 {
		panic("no kind: " + word)
	}
	if !strings.HasPrefix(rest, "(") {
		return t, rest
	}
	for rest[0] != ')' {
		var k api.Tree
		k, rest = cut(strings.TrimLeft(rest[1:], " "))
		t.Kids = append(t.Kids, k)
	}
	return t, rest[1:]
}

// show writes a tree without its places, as of reads it.
func show(t api.Tree) string {
	s, ok := words[t.Kind]
	if !ok {
		s = strconv.Itoa(t.Kind)
	}
	if t.Text != "" {
		s += " " + t.Text
	}
	var kids []string
	for _, k := range t.Kids {
		kids = append(kids, show(k))
	}
	if kids == nil {
		return s
	}
	return s + "(" + strings.Join(kids, ", ") + ")"
}

func ty(name string, args ...api.Type) api.Type { return api.Type{Name: name, Args: args} }

// typed reads a type: "L<$T,int>". An empty Name stands as "_".
func typed(text string) api.Type {
	t, rest := cutType(text)
	if rest != "" {
		panic(text + " goes on with " + rest)
	}
	return t
}

func cutType(text string) (api.Type, string) {
	end := strings.IndexAny(text+",", "<>,")
	t, rest := ty(strings.ReplaceAll(text[:end], "_", "")), text[end:]
	if !strings.HasPrefix(rest, "<") {
		return t, rest
	}
	for rest[0] != '>' {
		var k api.Type
		k, rest = cutType(rest[1:])
		t.Args = append(t.Args, k)
	}
	return t, rest[1:]
}

// typesOf reads types with blanks between them.
func typesOf(text string) []api.Type {
	var out []api.Type
	for _, s := range strings.Fields(text) {
		out = append(out, typed(s))
	}
	return out
}

func showType(t api.Type) string {
	var args []string
	for _, k := range t.Args {
		args = append(args, showType(k))
	}
	if args == nil {
		return t.Name
	}
	return t.Name + "<" + strings.Join(args, ",") + ">"
}

// exactTypes writes types with each Name in quotes, so that no two lists look the same.
func exactTypes(l []api.Type) string {
	s := "<"
	for _, t := range l {
		s += strconv.Quote(t.Name) + exactTypes(t.Args)
	}
	return s + ">"
}

// equations reads targets, with semicolons between them: "p::f<int> = q::g; p::h = error".
func equations(text string) []api.Equation {
	var out []api.Equation
	for _, s := range strings.Split(text, ";") {
		if a, b, ok := strings.Cut(s, "="); ok {
			out = append(out, api.Equation{A: typed(strings.TrimSpace(a)), B: typed(strings.TrimSpace(b))})
		}
	}
	return out
}

// showOp writes an operation, as "r2 = r0 + r1", and what it has besides.
func showOp(o api.Op) string {
	r := func(n int) string { return "r" + strconv.Itoa(n) }
	rest := o
	rest.Kind = 0
	two := map[int]string{api.OpAdd: "+", api.OpSub: "-", api.OpMul: "*", api.OpDiv: "/", api.OpRem: "%", api.OpLess: "<", api.OpEqual: "=="}
	var list []string
	for _, n := range o.List {
		list = append(list, r(n))
	}
	s := r(o.A) + " = "
	switch o.Kind {
	case api.OpConst:
		s, rest.A, rest.C = s+strconv.Itoa(o.C), 0, 0
	case api.OpCopy:
		s, rest.A, rest.B = s+r(o.B), 0, 0
	case api.OpNot:
		s, rest.A, rest.B = s+"!"+r(o.B), 0, 0
	case api.OpNeg:
		s, rest.A, rest.B = s+"-"+r(o.B), 0, 0
	case api.OpJump:
		s, rest.C = "go "+strconv.Itoa(o.C), 0
	case api.OpZero:
		s, rest.B, rest.C = "zero "+r(o.B)+" "+strconv.Itoa(o.C), 0, 0
	case api.OpCall:
		s, rest.A, rest.List, rest.Sym = s+"call "+o.Sym+"("+strings.Join(list, " ")+")", 0, nil, ""
	case api.OpNew:
		s, rest.A, rest.List = s+"new("+strings.Join(list, " ")+")", 0, nil
	case api.OpLoad:
		s, rest.A, rest.B, rest.C = s+r(o.B)+"."+strconv.Itoa(o.C), 0, 0, 0
	case api.OpPrint:
		s, rest.B = "print "+r(o.B), 0
	case api.OpReturn:
		s, rest.B = "return "+r(o.B), 0
	case api.OpGlobal:
		s, rest.A, rest.Sym = s+strings.TrimSpace("global "+o.Sym), 0, ""
	default:
		sign, ok := two[o.Kind]
		if !ok {
			return fmt.Sprint("no operation ", o)
		}
		s, rest.A, rest.B, rest.C = s+r(o.B)+" "+sign+" "+r(o.C), 0, 0, 0
	}
	if len(rest.List) == 0 {
		rest.List = nil
	}
	if left := fmt.Sprint(rest); left != fmt.Sprint(api.Op{}) {
		s += " and " + left
	}
	return s
}

// showCode writes code, as "0/3: r0 = 1, r1 = 2, r2 = r0 + r1, return r2": its parameters, its registers, and its operations.
func showCode(c api.Code) string {
	var out []string
	for _, o := range c.Ops {
		out = append(out, showOp(o))
	}
	return strconv.Itoa(c.Params) + "/" + strconv.Itoa(c.Regs) + ": " + strings.Join(out, ", ")
}

// checkBody tests the code of a definition without parameters of types, in which each call calls what it names.
func checkBody(t *testing.T, in api.Tree, want string) {
	t.Helper()
	checkTargets(t, in, "", nil, same(lower.Calls(in, nil, nil)), want)
}

// checkTargets tests the code of a definition with types in the place of its parameters and with targets.
func checkTargets(t *testing.T, in api.Tree, names string, args []api.Type, targets []api.Equation, want string) {
	t.Helper()
	if got := lower.Body(in, strings.Fields(names), args, targets); showCode(got) != want {
		t.Errorf("%s became\n%s\nwanted\n%s", show(in), showCode(got), want)
	}
	if got := read(in, strings.Fields(names), args, targets); showCode(got) != want {
		t.Errorf("%s is read as\n%s\nwanted\n%s", show(in), showCode(got), want)
	}
}

// checkValue tests the code of a value in a constant, and in a function with two parameters, whose new registers are greater by two.
func checkValue(t *testing.T, value, want string) {
	t.Helper()
	checkBody(t, constant(value), want)
	checkBody(t, function("p q", value), showCode(raised(bodyOf(constant(value)), 2)))
}

// bodyOf returns the code of a definition in which each call calls what it names.
func bodyOf(in api.Tree) api.Code { return lower.Body(in, nil, nil, same(lower.Calls(in, nil, nil))) }

// same returns targets with which each instance is its own target.
func same(l []api.Type) []api.Equation {
	var out []api.Equation
	for _, x := range l {
		out = append(out, api.Equation{A: x, B: x})
	}
	return out
}

// raised returns a code with n more parameters, before all its registers.
func raised(c api.Code, n int) api.Code {
	out := api.Code{Params: c.Params + n, Regs: c.Regs + n}
	for _, o := range c.Ops {
		if !slices.Contains([]int{api.OpJump, api.OpZero, api.OpPrint, api.OpReturn}, o.Kind) {
			o.A += n
		}
		if !slices.Contains([]int{api.OpConst, api.OpJump, api.OpCall, api.OpNew, api.OpGlobal}, o.Kind) {
			o.B += n
		}
		if slices.Contains([]int{api.OpAdd, api.OpSub, api.OpMul, api.OpDiv, api.OpRem, api.OpLess, api.OpEqual}, o.Kind) {
			o.C += n
		}
		o.List = slices.Clone(o.List)
		for i := range o.List {
			o.List[i] += n
		}
		out.Ops = append(out.Ops, o)
	}
	return out
}

// constant returns a KConst with a value.
func constant(value string) api.Tree { return of("const k(type int, " + value + ")") }

// function returns a KFn with arguments and a body.
func function(args, body string) api.Tree {
	var l []string
	for _, a := range strings.Fields(args) {
		l = append(l, "arg "+a+"(type int)")
	}
	return of("fn f(params, " + list("args", l) + ", type int, " + body + ")")
}

func list(word string, l []string) string {
	if l == nil {
		return word
	}
	return word + "(" + strings.Join(l, ", ") + ")"
}

// compare tests what Body and Calls return for a tree, and returns its code.
func compare(t *testing.T, in api.Tree, names []string, args []api.Type, targets []api.Equation) api.Code {
	t.Helper()
	got, want := lower.Body(in, names, args, targets), read(in, names, args, targets)
	if fact.Code(got) != fact.Code(want) {
		t.Fatalf("%s with %q, %v and\n%s\nbecame\n%s\nwanted\n%s", show(in), names, args, showEquations(targets), showCode(got), showCode(want))
	}
	if got, want := lower.Calls(in, names, args), readCalls(in, names, args); exactTypes(got) != exactTypes(want) {
		t.Fatalf("%s with %q and %v calls\n%s\nwanted\n%s", show(in), names, args, exactTypes(got), exactTypes(want))
	}
	return got
}

func showEquations(l []api.Equation) string {
	var out []string
	for _, e := range l {
		out = append(out, showType(e.A)+" = "+showType(e.B))
	}
	return strings.Join(out, "; ")
}

// copied returns a tree in new memory.
func copied(t api.Tree) api.Tree {
	t.Kids = slices.Clone(t.Kids)
	for i, k := range t.Kids {
		t.Kids[i] = copied(k)
	}
	return t
}

// change calls a function with each node of a tree, which may change it, each one before those below it.
func change(t *api.Tree, do func(*api.Tree)) {
	do(t)
	for i := range t.Kids {
		change(&t.Kids[i], do)
	}
}

// dice are numbers that look accidental and are the same in every run.
type dice struct{ state uint64 }

// roll returns a number from 0 to n-1.
func (d *dice) roll(n int) int {
	d.state = d.state*6364136223846793005 + 1442695040888963407
	return int(d.state>>33) % n
}

// pick returns one of some strings.
func (d *dice) pick(l ...string) string { return l[d.roll(len(l))] }

func (d *dice) kindOf(l ...int) int { return l[d.roll(len(l))] }
