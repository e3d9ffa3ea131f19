package lower_test

import (
	"slices"
	"strconv"
	"strings"
	"testing"

	"recompile/api"
	"recompile/fact"
	"recompile/lower"
)

const levels = 1 << 16

// tower returns a tree with n levels of a node around another one.
func tower(n int, kind int, text string, in api.Tree) api.Tree {
	for range n {
		in = api.Tree{Kind: kind, Text: text, Kids: []api.Tree{in}}
	}
	return in
}

// valueOf returns a KConst with a value.
func valueOf(value api.Tree) api.Tree {
	return api.Tree{Kind: api.KConst, Kids: []api.Tree{{Kind: api.KTypeOf, Text: "int"}, value}}
}

// withArgs returns a KFn with n arguments and a value.
func withArgs(n int, value api.Tree) api.Tree {
	args := api.Tree{Kind: api.KArgs}
	for i := range n {
		args.Kids = append(args.Kids, api.Tree{Kind: api.KArg, Text: "x@" + strconv.Itoa(i)})
	}
	return api.Tree{Kind: api.KFn, Kids: []api.Tree{{Kind: api.KParams}, args, {Kind: api.KTypeOf, Text: "int"}, value}}
}

// blockOf returns a block with n times a node, and then others.
func blockOf(n int, t api.Tree, others ...api.Tree) api.Tree {
	return api.Tree{Kind: api.KBlock, Kids: append(slices.Repeat([]api.Tree{t}, n), others...)}
}

// nothing are the operations of what has no value.
const nothing = "r0 = global, return r0"

// parts are nodes with the numbers of their operations and of their new registers.
func parts() []struct {
	tree           string
	ops, registers int
} {
	return []struct {
		tree           string
		ops, registers int
	}{
		{"int 1", 1, 1}, {"bad x", 1, 1}, {"bool true", 1, 1}, {"unit", 1, 1}, {"local x@0", 1, 1}, {"global p::c", 1, 1}, {"call p::f", 1, 1}, {"new p::R", 1, 1}, {"dot 0(block)", 1, 1}, {"unary -(block)", 1, 1}, {"binary +(block, block)", 1, 1}, {"let y@9(block)", 1, 1}, {"print(block)", 1, 0},
		{"call p::f(int 1, int 2)", 3, 3}, {"binary +(int 1, int 2)", 3, 3}, {"print(int 1)", 2, 1}, {"let y@9(int 1)", 2, 2}, {"while(block, block)", 2, 0}, {"binary &&(block, block)", 3, 1}, {"binary ||(block, block)", 4, 2}, {"if(block, block, block)", 4, 1}, {"assign x@0(int 1)", 2, 1}, {"assign z@9(int 1)", 1, 1}, {"do(int 1)", 1, 1}, {"dot 0", 2, 2}, {"unary !", 2, 2}, {"while", 4, 2}, {"if", 7, 4},
	}
}

// Code has at most MaxCode operations, with OpReturn; what would have more has no value, whichever operation of its last part is the one too many.
func TestMaxCode(t *testing.T) {
	t.Parallel()
	for _, p := range parts() {
		count := api.MaxCode - 1 - p.ops
		for more := range p.ops + 1 {
			in := withArgs(1, blockOf(count+more, of("int 1"), of(p.tree)))
			got := lower.Body(in, nil, nil, nil)
			if more > 0 && showCode(got) != "1/1: "+nothing || more == 0 && (len(got.Ops) != api.MaxCode || got.Regs != 1+count+p.registers || got.Params != 1) {
				t.Fatalf("%d operations with the last part %s: %d operations, %d registers", api.MaxCode+more, p.tree, len(got.Ops), got.Regs)
			}
			if fact.Code(got) != fact.Code(read(in, nil, nil, nil)) {
				t.Fatalf("%d operations with the last part %s are read in another way", api.MaxCode+more, p.tree)
			}
		}
	}
}

// A KFn whose code would be too long keeps its parameters, a KConst has none.
func TestCodeThatIsTooLong(t *testing.T) {
	for _, n := range []int{0, 1, 2, 3, 100} {
		params := strconv.Itoa(n) + "/" + strconv.Itoa(max(n, 1))
		for _, count := range []int{api.MaxCode, api.MaxCode + 1, 3 * api.MaxCode} {
			checkBody(t, withArgs(n, blockOf(count, of("int 1"))), params+": "+nothing)
			checkBody(t, withArgs(n, blockOf(count, of("print(local x@0)"))), params+": "+nothing)
		}
		got := lower.Body(withArgs(n, blockOf(api.MaxCode-1, of("int 1"))), nil, nil, nil)
		if len(got.Ops) != api.MaxCode || got.Params != n || got.Regs != n+api.MaxCode-1 {
			t.Errorf("with %d parameters: %d operations, %d parameters, %d registers", n, len(got.Ops), got.Params, got.Regs)
		}
	}
	checkBody(t, valueOf(blockOf(api.MaxCode, of("int 1"))), "0/1: "+nothing)
	got := lower.Body(valueOf(blockOf(api.MaxCode-1, of("int 1"))), nil, nil, nil)
	if len(got.Ops) != api.MaxCode || got.Params != 0 || got.Regs != api.MaxCode-1 {
		t.Errorf("a constant: %d operations, %d parameters, %d registers", len(got.Ops), got.Params, got.Regs)
	}
	in := valueOf(blockOf(api.MaxCode, of("call p::f")))
	in.Kids[0] = of("args(arg x@0)")
	checkBody(t, in, "0/1: "+nothing)
	if got := lower.Calls(in, nil, nil); exactTypes(got) != exactTypes(typesOf("p::f")) {
		t.Errorf("code that is too long calls %s", exactTypes(got))
	}
}

// What has no operations does not count.
func TestManyNodesWithoutOperations(t *testing.T) {
	t.Parallel()
	n := 200000
	in := valueOf(api.Tree{Kind: api.KCall, Text: "p::f", Kids: slices.Repeat([]api.Tree{{Kind: api.KBlock}}, n)})
	got := lower.Body(in, nil, nil, equations("p::f = a"))
	if len(got.Ops) != 2 || len(got.Ops[0].List) != n || got.Ops[0].Sym != "a" || got.Regs != 1 || slices.Max(got.Ops[0].List) != 0 {
		t.Errorf("%d operations, %d registers", len(got.Ops), got.Regs)
	}
	checkBody(t, withArgs(2, blockOf(n, of("do(block)"), of("int 1"))), "2/3: r2 = 1, return r2")
	checkBody(t, valueOf(tower(levels-4, api.KBlock, "", of("int 1"))), "0/1: r0 = 1, return r0")
	checkBody(t, valueOf(tower(levels-4, api.KDo, "", of("int 1"))), "0/1: r0 = 1, return r0")
	checkBody(t, valueOf(tower(levels-4, api.KBad, "", of("int 1"))), "0/1: r0 = global, return r0")
	got = lower.Body(withArgs(n, of("local x@199999")), nil, nil, nil)
	if got.Params != n || got.Regs != n+1 || showOp(got.Ops[0]) != "r200000 = r199999" {
		t.Errorf("%d parameters, %d registers, %s", got.Params, got.Regs, showOp(got.Ops[0]))
	}
	if got := lower.Body(api.Tree{Kind: api.KFn, Kids: withArgs(n, api.Tree{}).Kids[1:2]}, nil, nil, nil); showCode(got) != "200000/200000: "+nothing {
		t.Errorf("a KFn with one Kid: %d parameters", got.Params)
	}
}

func TestDeepTrees(t *testing.T) {
	t.Parallel()
	for _, c := range []struct {
		kind int
		text string
	}{{api.KUnary, "-"}, {api.KCall, "p::f"}, {api.KNew, "p::R"}, {api.KDot, "1"}, {api.KLet, "x@0"}, {api.KAssign, "x@0"}, {api.KPrint, ""}, {api.KIf, ""}, {api.KBinary, "+"}, {api.KBinary, "&&"}, {api.KWhile, ""}} {
		in := valueOf(tower(levels-4, c.kind, c.text, of("call p::g(int 1)")))
		got := lower.Body(in, nil, nil, nil)
		ok := showCode(got) == "0/1: "+nothing
		if c.kind == api.KAssign {
			ok = showCode(got) == "0/2: r0 = 1, r1 = call (r0), return r0"
		}
		if !ok {
			t.Errorf("%d levels of %s %s have %d operations", levels, words[c.kind], c.text, len(got.Ops))
		}
		calls := "p::g"
		if c.kind == api.KCall {
			calls = "p::f p::g"
		}
		if got := lower.Calls(in, nil, nil); exactTypes(got) != exactTypes(typesOf(calls)) {
			t.Errorf("%d levels of %s %s call %s", levels, words[c.kind], c.text, exactTypes(got))
		}
	}
	got := lower.Body(valueOf(tower(3998, api.KUnary, "!", of("int 1"))), nil, nil, nil)
	if len(got.Ops) != api.MaxCode || got.Regs != 3999 || showOp(got.Ops[3998]) != "r3998 = !r3997" {
		t.Errorf("3998 levels of signs have %d operations", len(got.Ops))
	}
}

// Types in calls have any number of nodes and levels, up to MaxNodes in a Text.
func TestLargeTypes(t *testing.T) {
	t.Parallel()
	deep := ty("int")
	for range levels - 2 {
		deep = ty("p::L", deep)
	}
	wide := ty("p::W", slices.Repeat([]api.Type{ty("int")}, 200000)...)
	in := valueOf(of("block(call p::f<$T>, call p::f<$U>, call p::f<$T,$U>)"))
	args := []api.Type{deep, wide}
	calls := lower.Calls(in, []string{"T", "U"}, args)
	if len(calls) != 3 || len(calls[0].Args) != 2 || len(calls[0].Args[1].Args) != 200000 || len(calls[1].Args) != 1 || len(calls[2].Args[0].Args) != 200000 {
		t.Fatalf("%d calls", len(calls))
	}
	targets := []api.Equation{{A: ty("p::f", deep), B: ty("a")}, {A: ty("p::f", wide), B: ty("b")}, {A: ty("p::f", deep, wide), B: ty("c", deep)}}
	got := lower.Body(in, []string{"T", "U"}, args, targets)
	if got.Ops[0].Sym != "a" || got.Ops[1].Sym != "b" || !strings.HasPrefix(got.Ops[2].Sym, "c<p::L<p::L<") || len(got.Ops[2].Sym) != 6*(levels-2)+6 {
		t.Errorf("the symbols are %q, %q and one of %d bytes", got.Ops[0].Sym, got.Ops[1].Sym, len(got.Ops[2].Sym))
	}
	for n, want := range map[int]string{api.MaxNodes: "a", api.MaxNodes + 1: ""} {
		text := "f<" + strings.Repeat("int,", n-2) + "int>"
		call := api.Tree{Kind: api.KCall, Text: text}
		x := ty("f", slices.Repeat([]api.Type{ty("int")}, n-1)...)
		if got := lower.Body(valueOf(call), nil, nil, []api.Equation{{A: x, B: ty("a")}}); got.Ops[0].Sym != want {
			t.Errorf("a Text of %d nodes calls %q", n, got.Ops[0].Sym)
		}
		if got := lower.Calls(valueOf(call), nil, nil); len(got) != len(want) {
			t.Errorf("with a Text of %d nodes there are %d calls", n, len(got))
		}
	}
}

// Many calls of many instances, with many targets.
func TestManyCalls(t *testing.T) {
	t.Parallel()
	n := 3000
	name := func(i int) string { return "p::f" + strconv.Itoa(i) }
	block := api.Tree{Kind: api.KBlock}
	var targets []api.Equation
	for i := range 100 * n {
		targets = append(targets, api.Equation{A: ty(name(i), ty("int")), B: ty("q::g" + strconv.Itoa(i))})
	}
	for i := range n {
		block.Kids = append(block.Kids, api.Tree{Kind: api.KCall, Text: name(100*i+99) + "<$T>"})
	}
	got := lower.Body(valueOf(block), []string{"T"}, typesOf("int"), targets)
	if len(got.Ops) != n+1 || got.Ops[n-1].Sym != "q::g299999" || got.Ops[0].Sym != "q::g99" {
		t.Errorf("%d operations, %s", len(got.Ops), got.Ops[n-1].Sym)
	}
	calls := lower.Calls(valueOf(block), []string{"T"}, typesOf("int"))
	if len(calls) != n || !slices.IsSortedFunc(calls, func(a, b api.Type) int { return strings.Compare(showType(a), showType(b)) }) {
		t.Errorf("%d calls", len(calls))
	}
	// the same call again and again, with many parameters
	names, args := []string{}, []api.Type{}
	for i := range 100000 {
		names, args = append(names, strconv.Itoa(i)), append(args, ty("int"))
	}
	same := valueOf(blockOf(n, of("call p::f<$99999>")))
	if got := lower.Body(same, names, args, equations("p::f<int> = a")); len(got.Ops) != n+1 || got.Ops[n-1].Sym != "a" {
		t.Errorf("%d operations, %s", len(got.Ops), got.Ops[n-1].Sym)
	}
	if got := lower.Calls(same, names, args); exactTypes(got) != exactTypes(typesOf("p::f<int>")) {
		t.Errorf("%d calls", len(got))
	}
}

// Code that was given up leaves nothing for the next call.
func TestCodeAfterCodeThatIsTooLong(t *testing.T) {
	in := function("x@0", "binary +(local x@0, int 1)")
	want := fact.Code(lower.Body(in, nil, nil, nil))
	for range 3 {
		lower.Body(withArgs(3, blockOf(api.MaxCode, of("let x@0(int 1)"))), nil, nil, nil)
		if got := lower.Body(in, nil, nil, nil); fact.Code(got) != want {
			t.Errorf("after code that is too long: %s", showCode(got))
		}
	}
}
