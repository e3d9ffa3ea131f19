package fact_test

import (
	"fmt"
	"reflect"
	"regexp"
	"strconv"
	"strings"

	"recompile/api"
	"recompile/fact"
	"recompile/shape"
	"recompile/types"
)

// show writes anything.
func show(x any) string { return fmt.Sprint(x) }

// pk says in another way what Pack does.
func pk(l ...string) string {
	var out []string
	for _, s := range l {
		out = append(out, fmt.Sprintf("%d:%s", len(s), s))
	}
	return strings.Join(out, "")
}

// ty returns a type with a Name and Args.
func ty(name string, args ...api.Type) api.Type { return api.Type{Name: name, Args: args} }

// tree returns a node with those below it.
func tree(kind int, text string, at int, kids ...api.Tree) api.Tree {
	return api.Tree{Kind: kind, Text: text, At: at, Kids: kids}
}

// kind are facts of a type, with the functions that write and read them.
type kind struct {
	name  string
	of    reflect.Type
	write func(x any) string
	read  func(s string) (any, bool)
	facts []any
}

func kindOf[T any](name string, write func(T) string, read func(string) (T, bool), facts ...T) kind {
	k := kind{name: name, of: reflect.TypeFor[T]()}
	k.write = func(x any) string { return write(x.(T)) }
	k.read = func(s string) (any, bool) {
		x, ok := read(s)
		return x, ok
	}
	for _, x := range facts {
		k.facts = append(k.facts, x)
	}
	return k
}

// kinds are all kinds of facts, each with the empty one, and others with lists that have one or several elements.
func kinds() []kind {
	params := []api.Param{{Name: "T", Bound: "m::Show"}, {Name: "U"}, {}}
	generic := ty("m::P", ty("$T"), ty("m::L", ty("int")), ty("?0"))
	diags := []api.Diag{{Code: 4, Node: 12, Text: "a:b"}, {Code: -1, Node: 0}}
	add := tree(28, "+", 0, tree(37, "x@0", 1), tree(20, "12", -7))
	return []kind{
		kindOf("Binds", fact.Binds, fact.ReadBinds,
			nil, []api.Bind{{}}, []api.Bind{{Name: "a", Def: "m::a"}}, []api.Bind{{Name: "a", Def: "m::a"}, {Name: "a", Def: "n::a"}, {Def: "1:a"}}),
		kindOf("Result", fact.Result, fact.ReadResult,
			api.Result{}, api.Result{Tree: add}, api.Result{Tree: add, Diags: diags}, api.Result{Diags: []api.Diag{{Text: "x"}}}),
		kindOf("Signature", fact.Signature, fact.ReadSignature,
			api.Signature{}, api.Signature{Kind: api.SigFn, Params: params, Names: []string{"a", ":b", ""}, Args: []api.Type{ty("int"), generic}, Result: ty("unit"), Trait: "m::Show"}, api.Signature{Args: []api.Type{{}}, Result: generic}),
		kindOf("Headers", fact.Headers, fact.ReadHeaders,
			nil, []api.Header{{}}, []api.Header{{Def: "m::impl S for int", Trait: "m::S", Type: ty("int")}, {Def: "m::d", Params: params, Trait: "m::S", Type: generic}}),
		kindOf("Inferred", fact.Inferred, fact.ReadInferred,
			api.Inferred{}, api.Inferred{Tree: add, Diags: diags, Goals: []api.Goal{{Trait: "m::S", Type: generic}, {Type: ty("$U")}, {}}, At: []int{0, -3, 1000}}, api.Inferred{At: []int{7}}),
		kindOf("Code", fact.Code, fact.ReadCode,
			api.Code{}, api.Code{Params: 1, Regs: 3, Ops: []api.Op{{Kind: api.OpConst, A: 1, C: -5}, {Kind: api.OpCall, A: 2, List: []int{0, 1, -1}, Sym: "m::f<int>"}, {Kind: api.OpReturn, B: 2, List: []int{4}}, {}}}, api.Code{Params: -1, Regs: 1 << 40}),
	}
}

// part is a part of the string of a fact, as the document tells it: a text, or a pack of parts.
type part struct {
	of   reflect.Type
	text string // of a part that is no pack
	kids []part // of a pack
}

// isPack reports whether a part is a pack, and isText what else it is.
func (p part) isPack() bool {
	return p.of.Kind() == reflect.Slice || p.of.Kind() == reflect.Struct && p.of != typeType && p.of != treeType
}

var (
	typeType = reflect.TypeFor[api.Type]()
	treeType = reflect.TypeFor[api.Tree]()
)

func (p part) String() string {
	if !p.isPack() {
		return p.text
	}
	var l []string
	for _, k := range p.kids {
		l = append(l, k.String())
	}
	return pk(l...)
}

// partOf returns what the document says how a value is written: the fields that it lists are all the fields that the types have, in their order.
func partOf(v reflect.Value) part {
	p := part{of: v.Type()}
	switch x := v.Interface().(type) {
	case api.Type:
		p.text = typeText(x)
	case api.Tree:
		p.text = treeText(x)
	case int:
		p.text = fmt.Sprintf("%d", x)
	case string:
		p.text = x
	default:
		for i := range size(v) {
			p.kids = append(p.kids, partOf(at(v, i)))
		}
	}
	return p
}

// size returns the number of elements or fields.
func size(v reflect.Value) int {
	if v.Kind() == reflect.Slice {
		return v.Len()
	}
	return v.NumField()
}

// at returns an element or a field.
func at(v reflect.Value, i int) reflect.Value {
	if v.Kind() == reflect.Slice {
		return v.Index(i)
	}
	return v.Field(i)
}

func typeText(t api.Type) string {
	if len(t.Args) == 0 {
		return t.Name
	}
	var l []string
	for _, k := range t.Args {
		l = append(l, typeText(k))
	}
	return t.Name + "<" + strings.Join(l, ",") + ">"
}

func treeText(t api.Tree) string {
	s := fmt.Sprintf("%d:%d:%d:%s(", t.Kind, t.At, len(t.Text), t.Text)
	for _, k := range t.Kids {
		s += treeText(k)
	}
	return s + ")"
}

var number = regexp.MustCompile(`^[ +-]?[0-9]+:`)

// loosePack reads a pack whose numbers can have signs, blanks and zeros before them.
func loosePack(s string) ([]string, bool) {
	var l []string
	for s != "" {
		head := number.FindString(s)
		n, err := strconv.Atoi(strings.Trim(head, " +-:"))
		if err != nil || n > len(s)-len(head) {
			return nil, false
		}
		l = append(l, s[len(head):len(head)+n])
		s = s[len(head)+n:]
	}
	return l, true
}

// loose reads a value of a type, and takes also what it is not written as.
func loose(into reflect.Value, s string) bool {
	switch x := into.Addr().Interface().(type) {
	case *string:
		*x = s
		return true
	case *int:
		n, err := strconv.ParseInt(strings.TrimSpace(s), 10, 64)
		*x = int(n)
		return err == nil
	case *api.Type:
		t, ok := types.Parse(s)
		*x = t
		return ok || s == ""
	case *api.Tree:
		t, ok := shape.Decode(s)
		*x = t
		return ok
	}
	l, ok := loosePack(s)
	if into.Kind() == reflect.Slice {
		into.Set(reflect.MakeSlice(into.Type(), len(l), len(l)))
	}
	if !ok || len(l) != size(into) {
		return false
	}
	for i, s := range l {
		if !loose(at(into, i), s) {
			return false
		}
	}
	return true
}

// second says in another way what the Read functions do: it reads loosely, and then looks whether what was read is written as it was.
func second(k kind, s string) (any, bool) {
	v := reflect.New(k.of).Elem()
	if !loose(v, s) || partOf(v).String() != s {
		return reflect.Zero(k.of).Interface(), false
	}
	return v.Interface(), true
}

// exact writes a value so that no two that differ look the same, and nil like an empty list.
func exact(x any) string { return written(reflect.ValueOf(x)) }

func written(v reflect.Value) string {
	switch v.Kind() {
	case reflect.Int, reflect.String:
		return fmt.Sprintf("%#v", v.Interface())
	}
	var l []string
	for i := range size(v) {
		l = append(l, written(at(v, i)))
	}
	return "{" + strings.Join(l, " ") + "}"
}

// dice are numbers that look accidental and are the same in every run.
type dice struct{ state uint64 }

// roll returns a number from 0 to n-1.
func (d *dice) roll(n int) int {
	d.state = d.state*6364136223846793005 + 1442695040888963407
	return int(d.state>>33) % n
}

// pick returns one of some strings.
func (d *dice) pick(l ...string) string { return l[d.roll(len(l))] }

// fill sets a value to something accidental: its lists have fewer than some elements, and a function sets numbers, strings, types and trees.
func (d *dice) fill(v reflect.Value, elements int, set func(leaf any)) {
	switch v.Interface().(type) {
	case int, string, api.Type, api.Tree:
		set(v.Addr().Interface())
		return
	}
	if v.Kind() == reflect.Slice {
		n := d.roll(elements)
		v.Set(reflect.MakeSlice(v.Type(), n, n))
	}
	for i := range size(v) {
		d.fill(at(v, i), elements, set)
	}
}

// many sets something to one of many values.
func (d *dice) many(leaf any) {
	switch x := leaf.(type) {
	case *string:
		*x = d.pick("", "a", "T", "m::f", "1:a", "0:", ":", "-1", "a b", "\x00\xff", "0123456789abc", "m::f<int>")
	case *int:
		*x = []int{0, 0, 1, -1, 2, 9, 10, 99, -100, 1 << 62, -1 << 63, 1<<63 - 1}[d.roll(12)]
	case *api.Type:
		*x = d.typeOf(3)
	case *api.Tree:
		*x = d.treeOf(3)
	}
}

// few sets something to one of few values.
func (d *dice) few(leaf any) {
	switch x := leaf.(type) {
	case *string:
		*x = d.pick("", "", "0:", "1")
	case *int:
		*x = d.roll(2) * 11
	case *api.Type:
		*x = []api.Type{{}, {}, ty("0:"), ty("0:", ty("1"))}[d.roll(4)]
	case *api.Tree:
		*x = []api.Tree{{}, {Text: "()"}, {Kids: []api.Tree{{}}}}[d.roll(3)]
	}
}

// typeOf returns the zero type or one with plain names.
func (d *dice) typeOf(levels int) api.Type {
	if d.roll(4) == 0 {
		return api.Type{}
	}
	return d.plain(levels)
}

func (d *dice) plain(levels int) api.Type {
	t := ty(d.pick("int", "bool", "$T", "?0", "m::L", "m::P", " ", "1:a", ":"))
	if levels > 0 {
		for range d.roll(3) {
			t.Args = append(t.Args, d.plain(levels-1))
		}
	}
	return t
}

func (d *dice) treeOf(levels int) api.Tree {
	t := tree(d.roll(42), d.pick("", "a", "(", ")", "x@0", "1:a", "12"), d.roll(20)-2)
	if levels > 0 {
		for range d.roll(4) {
			t.Kids = append(t.Kids, d.treeOf(levels-1))
		}
	}
	return t
}
