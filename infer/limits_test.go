package infer_test

import (
	"strconv"
	"strings"
	"testing"

	"recompile/api"
	"recompile/infer"
	"recompile/parser"
	"recompile/shape"
)

const levels = 1 << 16

// tower returns a tree with n levels of a node around another one; the places are the numbers of the nodes.
func tower(n int, kind int, text string, in api.Tree) api.Tree {
	for range n {
		in = api.Tree{Kind: kind, Text: text, Kids: []api.Tree{in}}
	}
	return in
}

// bodyOf returns what Body makes of a constant of a type with a value whose places are the numbers of the nodes.
func bodyOf(result string, value api.Tree) api.Inferred {
	return bodyWith(result, value, definitions())
}

func bodyWith(result string, value api.Tree, l []api.Known) api.Inferred {
	return infer.Body(shape.Number(api.Tree{Kind: api.KConst, Kids: []api.Tree{{Kind: api.KTypeOf, Text: result}, value}}), l)
}

// bottom returns the number of levels of a tree, the Text of its second level, and the last node.
func bottom(t api.Tree) (int, string, api.Tree) {
	n, text := 1, t.Kids[0].Text
	for len(t.Kids) > 0 {
		n, t = n+1, t.Kids[0]
	}
	return n, text, t
}

func TestDeepTrees(t *testing.T) {
	t.Parallel()
	for _, c := range []struct {
		result, text, bottom, made string
		kind                       int
		diags                      string
	}{
		{"int", "-", "int 1", "-", api.KUnary, ""}, {"bool", "!", "bool true", "!", api.KUnary, ""}, {"int", "-", "unit", "-", api.KUnary, "9@65534"}, {"unit", "-", "int 1", "-", api.KUnary, "9@2"}, {"int", "", "int 1", "", api.KBlock, ""}, {"bool", "", "int 1", "", api.KBlock, "9@2"},
		{"int", "p::id", "int 1", "p::id<int>", api.KCall, ""}, {"unit", "p::id", "int 1", "p::id<int>", api.KCall, "9@2"}, {"int", "p::id", "call p::any", "p::id<int>", api.KCall, ""}, {"int", "", "call p::any", "", api.KBlock, ""},
		{"unit", "x@0", "int 1", "x@0", api.KLet, ""}, {"int", "b", "bad x", "b", api.KBad, ""}, {"int", "x", "call p::z", "x", api.KDot, "7@65534 p::z"},
	} {
		got := bodyOf(c.result, tower(levels-4, c.kind, c.text, of(c.bottom)))
		n, text, last := bottom(got.Tree.Kids[1])
		if n != levels-3 || text != c.made || showDiags(got.Diags) != c.diags || len(got.Goals) > 0 {
			t.Errorf("%d levels of %q, with %s: %s, wanted %s", n, text, show(last), showDiags(got.Diags), c.diags)
		}
		if c.bottom == "call p::any" && last.Text != "p::any<int>" {
			t.Errorf("the last node is %s", show(last))
		}
	}
	in := shape.Number(api.Tree{Kind: api.KConst, Kids: []api.Tree{{}, tower(levels-4, api.KCall, "p::a", of("global p::b"))}})
	checkNeeds(t, in, "p::a p::b")
	if got := infer.Body(tower(levels, api.KBlock, "", of("int 1")), nil); len(got.Diags) > 0 || len(got.Tree.Kids) != 1 {
		t.Errorf("a tree that is no definition: %s", showDiags(got.Diags))
	}
}

// Deep types come from deep expressions; those of more than MaxWide nodes are open.
func TestDeepTypes(t *testing.T) {
	t.Parallel()
	n := 6000
	l := append(definitions(), known("p::wrap fn T:p::S | $T = p::L<$T>; p::none fn T | p::L<$T> p::L<$T> = int")...)
	in := shape.Number(api.Tree{Kind: api.KConst, Kids: []api.Tree{of("type error"), tower(n, api.KCall, "p::wrap", of("int 1"))}})
	got := infer.Body(in, l)
	if len(got.Diags) != n-api.MaxWide+1 || len(got.Goals) != n || got.Diags[0].Node != 2 || showType(got.Goals[0].Type) != "int" || showType(got.Goals[1].Type) != "p::L<int>" || showType(got.Goals[n-1].Type) != "error" || got.Tree.Kids[1].Kind != api.KCall || got.Tree.Kids[1].Text != "p::wrap<error>" {
		t.Errorf("%d diagnostics, %d goals, %s", len(got.Diags), len(got.Goals), got.Tree.Kids[1].Text)
	}
	// two of them agree, or not
	for last, diags := range map[string]int{"int 1": 0, "bool true": 1} {
		other := tower(n, api.KCall, "p::wrap", of(last))
		in = shape.Number(api.Tree{Kind: api.KConst, Kids: []api.Tree{of("type error"), {Kind: api.KCall, Text: "p::none", Kids: []api.Tree{in.Kids[1], other}}}})
		got := infer.Body(in, l)
		count := 0
		for _, x := range got.Diags {
			if x.Code == api.CodeType {
				count++
			}
		}
		if count != diags {
			t.Errorf("%s: %d diagnostics of types", last, count)
		}
		in.Kids[1] = in.Kids[1].Kids[0]
	}
}

// Many fields are taken, one of the other or one beside the other, from records whose types are found on the way.
func TestManyDots(t *testing.T) {
	t.Parallel()
	n := 20000
	got := bodyOf("int", tower(1, api.KDot, "head", tower(n, api.KDot, "tail", of("global p::l"))))
	levels, text, _ := bottom(got.Tree.Kids[1])
	if levels != n+2 || text != "1" || len(got.Diags) > 0 || got.Tree.Kids[1].Text != "0" {
		t.Errorf("%d levels of %s, with %s", levels, text, showDiags(got.Diags))
	}
	for _, c := range []struct{ value, want string }{
		{"dot head(call p::id(global p::l))", "dot 0(call p::id<p::L<int>>(global p::l))"},
		{"dot a(new p::P(int 1, local x@0, call p::any))", "dot 0(new p::P<int,p::L<int>>(int 1, local x@0, call p::any<p::L<int>>))"},
		{"dot a(local x@0)", "bad a(local x@0)"}, {"dot head(local x@0)", "dot 0(local x@0)"}, {"dot head(dot tail(block(local x@0)))", "dot 0(dot 1(block(local x@0)))"},
	} {
		block := api.Tree{Kind: api.KBlock, Kids: []api.Tree{of("let x@0(call p::id(global p::l))")}}
		for range n / 2 {
			block.Kids = append(block.Kids, of(c.value))
		}
		got := bodyOf("error", block)
		bad := strings.HasPrefix(c.want, "bad")
		for _, k := range got.Tree.Kids[1].Kids[1:] {
			if show(k) != c.want {
				t.Fatalf("%s became %s", c.value, show(k))
			}
		}
		if bad && len(got.Diags) != n/2 || !bad && len(got.Diags) > 0 {
			t.Errorf("%s: %d diagnostics", c.value, len(got.Diags))
		}
	}
}

// Fields whose types have more nodes, and more levels, than those of their records; they agree with others, or would be in themselves.
func TestManyFieldsThatDouble(t *testing.T) {
	t.Parallel()
	l := known("p::D record T | next:p::D<p::P<$T,$T>> val:$T = p::D<$T>; p::P record T U | a:$T b:$U = p::P<$T,$U>; p::d const = p::D<int>; p::b const = p::D<bool>; p::same fn T | $T $T = $T; p::any fn T = $T; p::like fn T | $T = p::D<$T>")
	n := 20000
	got := bodyWith("error", tower(n, api.KDot, "next", of("global p::d")), l)
	if levels, text, _ := bottom(got.Tree.Kids[1]); levels != n+1 || text != "0" || len(got.Diags) > 0 {
		t.Errorf("%d levels of %s, with %s", levels, text, showDiags(got.Diags))
	}
	n = 1500
	for _, c := range []struct {
		d, e string
		code int
	}{{"global p::d", "global p::d", 0}, {"global p::d", "global p::b", api.CodeType}, {"call p::like(call p::any)", "call p::any", api.CodeType}} {
		block := api.Tree{Kind: api.KBlock, Kids: []api.Tree{of("let e0@0(" + c.e + ")"), of("let d0@0(" + c.d + ")")}}
		if c.e == "call p::any" {
			block.Kids[1] = of("let d0@0(call p::like(local e0@0))")
		}
		for i := range n {
			before, name := strconv.Itoa(i)+"@0", strconv.Itoa(i+1)+"@0"
			e := "dot next(local e" + before + ")"
			if c.e == "call p::any" {
				e = "local e" + before
			}
			block.Kids = append(block.Kids, of("let d"+name+"(dot next(local d"+before+"))"), of("let e"+name+"("+e+")"), of("call p::same(local e"+name+", local d"+name+")"))
		}
		got := bodyWith("error", block, l)
		count := map[int]int{}
		for _, x := range got.Diags {
			count[x.Code]++
		}
		if c.code > 0 && count[c.code] != n || c.code == 0 && count[api.CodeType] > 0 || count[api.CodeField] > 0 || dots(got.Tree)["bad"] > 0 {
			t.Errorf("%s and %s: %v, %v", c.d, c.e, count, dots(got.Tree))
		}
	}
}

// A variable whose type is found at the end, after many uses.
func TestManyUses(t *testing.T) {
	t.Parallel()
	n := 30000
	block := api.Tree{Kind: api.KBlock, Kids: []api.Tree{of("let x0@0(call p::any)")}}
	for i := range n {
		before := strconv.Itoa(i)
		block.Kids = append(block.Kids, of("let x"+strconv.Itoa(i+1)+"@0(call p::same(local x"+before+"@0, local x"+strconv.Itoa(i/2)+"@0))"))
	}
	last := strconv.Itoa(n)
	block.Kids = append(block.Kids, of("print(local x"+last+"@0)"), of("unary !(local x0@0)"), of("local x"+last+"@0"))
	got := bodyOf("int", block)
	if want := "9@" + strconv.Itoa(4*n+8); showDiags(got.Diags) != want || show(got.Tree.Kids[1].Kids[n]) != "let x"+last+"@0(call p::same<int>(local x"+strconv.Itoa(n-1)+"@0, local x"+strconv.Itoa((n-1)/2)+"@0))" {
		t.Errorf("%s, %s, wanted %s", showDiags(got.Diags), show(got.Tree.Kids[1].Kids[n]), want)
	}
}

func TestWideTrees(t *testing.T) {
	t.Parallel()
	n := 200000
	l := known("p::f fn; p::R record = p::R; p::big fn = int")
	for i := range n {
		l[0].Sig.Args = append(l[0].Sig.Args, ty([]string{"int", "bool"}[i%2]))
		l[1].Sig.Args, l[1].Sig.Names = append(l[1].Sig.Args, ty("int")), append(l[1].Sig.Names, strconv.Itoa(i))
	}
	call := api.Tree{Kind: api.KCall, Text: "p::f"}
	for range n {
		call.Kids = append(call.Kids, api.Tree{Kind: api.KInt, Text: "1"})
	}
	l[0].Sig.Result = ty("p::R")
	in := shape.Number(api.Tree{Kind: api.KConst, Kids: []api.Tree{of("type int"), {Kind: api.KDot, Text: strconv.Itoa(n - 1), Kids: []api.Tree{call}}}})
	got := infer.Body(in, l)
	if len(got.Diags) != n/2 || got.Diags[0].Node != 5 || got.Diags[n/2-1].Node != n+3 || got.Tree.Kids[1].Text != strconv.Itoa(n-1) {
		t.Errorf("%d diagnostics, the field %s", len(got.Diags), got.Tree.Kids[1].Text)
	}
	for i := range n {
		l[2].Sig.Params = append(l[2].Sig.Params, api.Param{Name: strconv.Itoa(i), Bound: "p::S"})
	}
	in.Kids[1] = api.Tree{Kind: api.KCall, Text: "p::big", At: 2}
	text := "p::big<error" + strings.Repeat(",error", n-1) + ">"
	if got := infer.Body(in, l); showDiags(got.Diags) != "11@2 p::big" || len(got.Goals) != n || len(got.At) != n || got.Goals[n-1].Type.Name != "error" || got.Tree.Kids[1].Text != text {
		t.Errorf("%d goals, with %s", len(got.Goals), showDiags(got.Diags))
	}
}

// A module of MaxText bytes with as many calls, fields and signs as it can hold.
func TestLargeModules(t *testing.T) {
	t.Parallel()
	for _, part := range []string{"f(r).a+", "r.a+", "-r.a+", "f(f(r)).a+", "new R(1).a+", "{let x=f(r);x.a}+", "{let x=g();let y=h(x,r);x.a}+"} {
		head := "type R{a:int}fn f<T>(x:T)->T{x}fn h<T>(x:T,y:T)->T{x}fn g<T>()->T{g()}fn k(r:R)->int{"
		text := head + strings.Repeat(part, (api.MaxText-len(head)-2)/len(part)) + "1}"
		if items, errors := parser.Module(text); len(errors) > 0 || len(items) != 5 {
			t.Fatalf("%s has errors at %v", part, errors)
		}
		if got := compile(t, text).body("k"); len(got.Diags) > 0 {
			t.Errorf("%s has %d diagnostics", part, len(got.Diags))
		}
	}
}
