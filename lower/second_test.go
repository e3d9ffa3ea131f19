package lower_test

import (
	"cmp"
	"slices"
	"strconv"
	"strings"

	"recompile/api"
)

// This is a second reading of the chapter, in two steps: first a definition becomes lines in which registers and places have names, and then these get numbers. The layer is compared with it.

// line is an operation, or says that a register is needed or that a place is here.
type line struct {
	word string // "needed", "here", or that of an operation
	a    string // a register or a place
	from []string
	n    int
	sym  string
}

// known is a variable with its register.
type known struct{ name, register string }

// reading is a definition that is being read.
type reading struct {
	lines     []line
	variables []known // the last one with a name counts
	count     int     // of the names that were made
	names     []string
	args      []api.Type
	targets   []api.Equation
}

// named makes a name that no other register or place has.
func (r *reading) named(prefix string) string {
	r.count++
	return prefix + strconv.Itoa(r.count)
}

// say adds an operation that writes a new register.
func (r *reading) say(word string, n int, sym string, from ...string) string {
	a := r.named("r")
	r.lines = append(r.lines, line{word: "needed", a: a}, line{word: word, a: a, n: n, sym: sym, from: from})
	return a
}

// tell adds a line about a register or a place that has a name.
func (r *reading) tell(word, a string, from ...string) {
	r.lines = append(r.lines, line{word: word, a: a, from: from})
}

// kid returns the value of a Kid.
func (r *reading) kid(t api.Tree, k int) string {
	return r.value(append(slices.Clone(t.Kids), api.Tree{Kind: api.KBad}, api.Tree{Kind: api.KBad}, api.Tree{Kind: api.KBad})[k])
}

// zero is the register 0, whatever it is.
const zero = "0"

// decimal reports whether a text has digits alone, and how many.
func decimal(s string) (int, bool) {
	for _, c := range s {
		if !strings.ContainsRune("0123456789", c) {
			return 0, false
		}
	}
	return len(s), s != ""
}

// integer returns the number that digits stand for.
func integer(s string) int {
	n := 0
	for _, c := range s {
		n = n*10 + strings.IndexRune("0123456789", c)
	}
	return n
}

// plain returns the value of a node that is a number, or not one that it should be.
func (r *reading) plain(t api.Tree) (string, bool) {
	digits, ok := decimal(t.Text)
	switch {
	case t.Kind == api.KInt && ok && digits <= 18:
		return r.say("number", integer(t.Text), ""), true
	case t.Kind == api.KBool:
		return r.say("number", map[bool]int{true: 1}[t.Text == "true"], ""), true
	case t.Kind == api.KUnit:
		return r.say("number", 0, ""), true
	case t.Kind == api.KDot && ok && (digits == 1 || t.Text[0] != '0') && (digits < 19 || digits == 19 && t.Text <= "9223372036854775807"):
		return r.say("load", integer(t.Text), "", r.kid(t, 0)), true
	case t.Kind == api.KGlobal:
		return r.say("global", 0, t.Text), true
	case t.Kind == api.KLocal:
		if v := r.find(t.Text); v != "" {
			return r.say("copy", 0, "", v), true
		}
	}
	return "", false
}

// find returns the register of a variable, and nothing if there is none.
func (r *reading) find(name string) string {
	for i := len(r.variables) - 1; i >= 0; i-- {
		if r.variables[i].name == name {
			return r.variables[i].register
		}
	}
	return ""
}

// value returns the register of the value of a node.
func (r *reading) value(t api.Tree) string {
	if v, ok := r.plain(t); ok {
		return v
	}
	switch t.Kind {
	case api.KCall, api.KNew:
		return r.made(t)
	case api.KUnary:
		return r.say(map[bool]string{true: "not", false: "minus"}[t.Text == "!"], 0, "", r.kid(t, 0))
	case api.KBinary:
		return r.two(t)
	case api.KIf, api.KWhile:
		return r.jumps(t)
	case api.KBlock:
		v := zero
		for _, k := range t.Kids {
			v = r.value(k)
		}
		return v
	case api.KLet, api.KAssign, api.KPrint, api.KDo:
		r.statement(t, r.kid(t, 0))
		return zero
	}
	return r.say("global", 0, "")
}

func (r *reading) made(t api.Tree) string {
	var from []string
	for i := range t.Kids {
		from = append(from, r.kid(t, i))
	}
	if t.Kind == api.KNew {
		return r.say("new", 0, "", from...)
	}
	return r.say("call", 0, r.target(t.Text), from...)
}

func (r *reading) two(t api.Tree) string {
	if t.Text != "&&" && t.Text != "||" {
		word := t.Text
		if !slices.Contains(strings.Fields("- * / % < =="), word) {
			word = "+"
		}
		left := r.kid(t, 0)
		return r.say(word, 0, "", left, r.kid(t, 1))
	}
	end := r.named("l")
	v := r.say("copy", 0, "", r.kid(t, 0))
	looks := v
	if t.Text == "||" {
		looks = r.say("not", 0, "", v)
	}
	r.tell("zero", end, looks)
	r.tell("copy", v, r.kid(t, 1))
	r.tell("here", end)
	return v
}

func (r *reading) jumps(t api.Tree) string {
	begin, end := r.named("l"), r.named("l")
	if t.Kind == api.KWhile {
		r.tell("here", begin)
		r.tell("zero", end, r.kid(t, 0))
		r.kid(t, 1)
		r.tell("go", begin)
		r.tell("here", end)
		return zero
	}
	condition, v := r.kid(t, 0), r.named("r")
	r.tell("needed", v)
	r.tell("zero", begin, condition)
	r.tell("copy", v, r.kid(t, 1))
	r.tell("go", end)
	r.tell("here", begin)
	r.tell("copy", v, r.kid(t, 2))
	r.tell("here", end)
	return v
}

// statement says what follows the value of a statement.
func (r *reading) statement(t api.Tree, v string) {
	switch t.Kind {
	case api.KLet:
		r.variables = append(r.variables, known{t.Text, r.say("copy", 0, "", v)})
	case api.KAssign:
		if a := r.find(t.Text); a != "" {
			r.tell("copy", a, v)
		}
	case api.KPrint:
		r.tell("print", "", v)
	}
}

// parsed reads a text as a type in another way: from its end, by the commas that are in no brackets. It says whether that is possible.
func parsed(text string) (api.Type, bool) {
	name, rest, ok := strings.Cut(text, "<")
	out := ty(name)
	if !ok {
		return out, name != "" && !strings.ContainsAny(name, ">,")
	}
	inner, closed := strings.CutSuffix(rest, ">")
	if !closed || name == "" || strings.ContainsAny(name, ">,") {
		return out, false
	}
	open, from := 0, 0
	for i, c := range inner + "," {
		open += map[rune]int{'<': 1, '>': -1}[c]
		if c == ',' && open == 0 {
			k, ok := parsed(inner[from:i])
			if !ok {
				return out, false
			}
			out.Args, from = append(out.Args, k), i+1
		}
	}
	return out, open == 0 && from == len(inner)+1
}

// replaced returns a type with other types in the place of parameters.
func replaced(t api.Type, names []string, args []api.Type) api.Type {
	for i, name := range names {
		if i < len(args) && len(t.Args) == 0 && t.Name == "$"+name {
			return args[i]
		}
	}
	out := ty(t.Name)
	for _, k := range t.Args {
		out.Args = append(out.Args, replaced(k, names, args))
	}
	return out
}

// instance returns the type of a KCall, and whether it has one.
func (r *reading) instance(text string) (api.Type, bool) {
	x, ok := parsed(text)
	if !ok {
		return x, false
	}
	return replaced(x, r.names, r.args), true
}

func (r *reading) target(text string) string {
	x, ok := r.instance(text)
	for _, e := range r.targets {
		if ok && exactTypes([]api.Type{e.A}) == exactTypes([]api.Type{x}) {
			return strings.TrimPrefix(showType(e.B), map[bool]string{true: showType(e.B)}[e.B.Name == "error"])
		}
	}
	return ""
}

// arguments returns the KArgs of a KFn.
func arguments(t api.Tree) []string {
	var out []string
	for _, k := range t.Kids {
		for _, a := range k.Kids {
			if t.Kind == api.KFn && k.Kind == api.KArgs && a.Kind == api.KArg {
				out = append(out, a.Text)
			}
		}
	}
	return out
}

// whole reports whether a tree has code.
func whole(t api.Tree) bool {
	return slices.Contains([]int{api.KFn, api.KConst}, t.Kind) && len(t.Kids) > 1
}

// read says in another way what Body returns.
func read(t api.Tree, names []string, args []api.Type, targets []api.Equation) api.Code {
	r := &reading{names: names, args: args, targets: targets}
	for i, a := range arguments(t) {
		r.variables = append(r.variables, known{a, strconv.Itoa(i)})
	}
	params := len(r.variables)
	if whole(t) {
		r.tell("return", "", r.value(t.Kids[len(t.Kids)-1]))
		if c := r.numbered(params); len(c.Ops) <= 4000 {
			return c
		}
	}
	r.lines = []line{{word: "global", a: zero}, {word: "return", from: []string{zero}}}
	return r.numbered(params)
}

// kinds are the kinds of the operations with the words of lines.
func kinds() map[string]int {
	return map[string]int{"number": api.OpConst, "copy": api.OpCopy, "+": api.OpAdd, "-": api.OpSub, "*": api.OpMul, "/": api.OpDiv, "%": api.OpRem, "<": api.OpLess, "==": api.OpEqual, "not": api.OpNot, "minus": api.OpNeg, "go": api.OpJump, "zero": api.OpZero, "call": api.OpCall, "new": api.OpNew, "load": api.OpLoad, "print": api.OpPrint, "return": api.OpReturn, "global": api.OpGlobal}
}

// numbered returns the code of lines: registers are numbered as they are needed, after the parameters, and places are those of the operations behind them.
func (r *reading) numbered(params int) api.Code {
	numbers := map[string]int{}
	for i := range params + 1 {
		numbers[strconv.Itoa(i)] = i
	}
	needed, operations := params, 0
	for _, l := range r.lines {
		switch l.word {
		case "needed":
			numbers[l.a] = needed
			needed++
		case "here":
			numbers[l.a] = operations
		default:
			operations++
		}
	}
	c := api.Code{Params: params, Regs: cmp.Or(needed, 1)}
	words := kinds()
	for _, l := range r.lines {
		if kind, ok := words[l.word]; ok {
			c.Ops = append(c.Ops, operation(kind, l, numbers))
		}
	}
	return c
}

// operation returns the operation of a line.
func operation(kind int, l line, numbers map[string]int) api.Op {
	o := api.Op{Kind: kind, A: numbers[l.a], C: l.n, Sym: l.sym}
	for _, b := range l.from {
		o.List = append(o.List, numbers[b])
	}
	if kind == api.OpCall || kind == api.OpNew {
		return o
	}
	if kind == api.OpJump || kind == api.OpZero {
		o.A, o.C = 0, o.A
	}
	if len(o.List) > 0 {
		o.B = o.List[0]
	}
	if len(o.List) > 1 {
		o.C = o.List[1]
	}
	o.List = nil
	return o
}

// readCalls says in another way what Calls returns.
func readCalls(t api.Tree, names []string, args []api.Type) []api.Type {
	if !whole(t) {
		return nil
	}
	r := &reading{names: names, args: args}
	var out []api.Type
	left := []api.Tree{t.Kids[len(t.Kids)-1]}
	for len(left) > 0 {
		k := left[0]
		left = append(slices.Clone(k.Kids), left[1:]...)
		if x, ok := r.instance(k.Text); ok && k.Kind == api.KCall {
			out = append(out, x)
		}
	}
	slices.SortStableFunc(out, func(a, b api.Type) int { return cmp.Compare(showType(a), showType(b)) })
	return slices.CompactFunc(out, func(a, b api.Type) bool { return showType(a) == showType(b) })
}
