package lower_test

import (
	"strconv"
	"strings"
	"testing"

	"recompile/api"
	"recompile/lower"
)

const nines = "999999999999999999" // as many digits as MaxDigits permits

func TestConstants(t *testing.T) {
	for value, want := range map[string]string{
		"int 7": "0/1: r0 = 7, return r0", "int 0": "0/1: r0 = 0, return r0", "int " + nines: "0/1: r0 = " + nines + ", return r0",
		// zeros count as digits
		"int 007": "0/1: r0 = 7, return r0", "int 00": "0/1: r0 = 0, return r0", "int 000000000000000000": "0/1: r0 = 0, return r0", "int 000000000000000009": "0/1: r0 = 9, return r0",
		"bool true": "0/1: r0 = 1, return r0", "bool false": "0/1: r0 = 0, return r0", "unit": "0/1: r0 = 0, return r0",
		// a KBool is 1 or 0; the Text of a KUnit, and Kids, do not matter
		"bool": "0/1: r0 = 0, return r0", "bool TRUE": "0/1: r0 = 0, return r0", "bool 1": "0/1: r0 = 0, return r0", "unit 5": "0/1: r0 = 0, return r0",
		"int 7(print(int 1))": "0/1: r0 = 7, return r0", "bool true(print(int 1))": "0/1: r0 = 1, return r0", "unit(int 1)": "0/1: r0 = 0, return r0",
		"global p::c": "0/1: r0 = global p::c, return r0", "global": "0/1: r0 = global, return r0", "global c(int 1)": "0/1: r0 = global c, return r0",
	} {
		checkValue(t, value, want)
	}
}

// What is no number of at most MaxDigits digits has no value.
func TestOtherIntegers(t *testing.T) {
	for _, text := range []string{"", "x", "-1", "+1", "1x", "x1", "1x1", "1 ", " 1", "1_0", "0x1", "1.0", "1e1", "٣", nines + "9", "1000000000000000000", "0000000000000000000", "0000000000000000001", "9223372036854775807", "99999999999999999999999999"} {
		checkValue(t, "int "+text+"(int 1)", "0/1: r0 = global, return r0")
	}
}

// Kinds that the chapter does not name have no value, whatever their Text and Kids are.
func TestOtherKinds(t *testing.T) {
	for _, word := range strings.Fields("zero use pubuse const fn record trait impl macro sig params param args arg supers type name expand bad module") {
		for _, rest := range []string{"", " x", " 1", "(int 1)", " p::f(print(int 1), call p::f)"} {
			checkValue(t, word+rest, "0/1: r0 = global, return r0")
			checkValue(t, "unary -("+word+rest+")", "0/2: r0 = global, r1 = -r0, return r1")
		}
	}
	for _, kind := range []int{-7, -1, 16, 17, 18, 19, 41, 99} {
		in := constant("block(bad x(int 1), int 2)")
		in.Kids[1].Kids[0].Kind = kind
		checkBody(t, in, "0/2: r0 = global, r1 = 2, return r1")
	}
}

func TestSigns(t *testing.T) {
	for sign, word := range map[string]string{"+": "+", "-": "-", "*": "*", "/": "/", "%": "%", "<": "<", "==": "==", "!": "+", "": "+", "&": "+", "|": "+", "=": "+", "<=": "+", "&&&": "+", "x": "+", "->": "+"} {
		name := strings.TrimSpace("binary " + sign)
		checkValue(t, name+"(int 1, int 2)", "0/3: r0 = 1, r1 = 2, r2 = r0 "+word+" r1, return r2")
		checkValue(t, name+"(int 1)", "0/3: r0 = 1, r1 = global, r2 = r0 "+word+" r1, return r2")
		checkValue(t, name, "0/3: r0 = global, r1 = global, r2 = r0 "+word+" r1, return r2")
	}
	for sign, word := range map[string]string{"-": "-", "!": "!", "+": "-", "": "-", "!!": "-", "x": "-", "&&": "-"} {
		name := strings.TrimSpace("unary " + sign)
		checkValue(t, name+"(int 1)", "0/2: r0 = 1, r1 = "+word+"r0, return r1")
		checkValue(t, name, "0/2: r0 = global, r1 = "+word+"r0, return r1")
	}
}

// The value of the first Kid comes before that of the second one, and each operation has a register of its own.
func TestOrderOfOperands(t *testing.T) {
	for value, want := range map[string]string{
		"binary -(binary *(int 1, int 2), binary /(int 3, int 4))":                  "0/7: r0 = 1, r1 = 2, r2 = r0 * r1, r3 = 3, r4 = 4, r5 = r3 / r4, r6 = r2 - r5, return r6",
		"binary %(int 1, binary <(int 2, unary -(int 3)))":                          "0/6: r0 = 1, r1 = 2, r2 = 3, r3 = -r2, r4 = r1 < r3, r5 = r0 % r4, return r5",
		"unary !(unary -(unary !(bool true)))":                                      "0/4: r0 = 1, r1 = !r0, r2 = -r1, r3 = !r2, return r3",
		"binary +(block(print(int 1), int 2), block(print(int 3), int 4))":          "0/5: r0 = 1, print r0, r1 = 2, r2 = 3, print r2, r3 = 4, r4 = r1 + r3, return r4",
		"call p::f(call p::g(int 1), new p::R(int 2, bool true), dot 5(call p::h))": "0/8: r0 = 1, r1 = call p::g(r0), r2 = 2, r3 = 1, r4 = new(r2 r3), r5 = call p::h(), r6 = r5.5, r7 = call p::f(r1 r4 r6), return r7",
	} {
		checkValue(t, value, want)
	}
}

func TestCallsAndRecords(t *testing.T) {
	for value, want := range map[string]string{
		"call p::f":                         "0/1: r0 = call p::f(), return r0",
		"call p::f(int 5)":                  "0/2: r0 = 5, r1 = call p::f(r0), return r1",
		"call p::f<int,p::L<bool>>(int 5)":  "0/2: r0 = 5, r1 = call p::f<int,p::L<bool>>(r0), return r1",
		"call p::f(int 5, int 6, int 7)":    "0/4: r0 = 5, r1 = 6, r2 = 7, r3 = call p::f(r0 r1 r2), return r3",
		"call p::f(bad, global p::c)":       "0/3: r0 = global, r1 = global p::c, r2 = call p::f(r0 r1), return r2",
		"new p::R":                          "0/1: r0 = new(), return r0",
		"new p::R<int>(int 5)":              "0/2: r0 = 5, r1 = new(r0), return r1",
		"new p::R(int 5, bool true, bad x)": "0/4: r0 = 5, r1 = 1, r2 = global, r3 = new(r0 r1 r2), return r3",
		"new(int 5)":                        "0/2: r0 = 5, r1 = new(r0), return r1",
		// a record has no symbol, though a target has its type
		"block(call p::R<int>(int 1), new p::R<int>(int 2))": "0/4: r0 = 1, r1 = call p::R<int>(r0), r2 = 2, r3 = new(r2), return r3",
	} {
		checkValue(t, value, want)
	}
}

func TestFields(t *testing.T) {
	for _, n := range []string{"0", "1", "9", "10", "17", "200000", nines, "9223372036854775807"} {
		checkValue(t, "dot "+n+"(int 5)", "0/2: r0 = 5, r1 = r0."+n+", return r1")
		checkValue(t, "dot "+n, "0/2: r0 = global, r1 = r0."+n+", return r1")
	}
	checkValue(t, "dot 1(dot 0(new p::R(int 5)))", "0/4: r0 = 5, r1 = new(r0), r2 = r1.0, r3 = r2.1, return r3")
	// leading zeros, no numbers, and one that has more than 64 bits: Kids do not matter
	for _, text := range []string{"", "00", "01", "007", "-1", "-0", "+1", "x", "a", "1x", "x1", "0x1", "1 ", " 1", "1_0", "1.0", "٣", "9223372036854775808", "99999999999999999999999999"} {
		checkValue(t, "dot "+text+"(print(int 5))", "0/1: r0 = global, return r0")
		checkValue(t, "dot "+text, "0/1: r0 = global, return r0")
	}
}

// Further Kids than those that a node has do not matter.
func TestFurtherKids(t *testing.T) {
	for value, want := range map[string]string{
		"unary -(int 1, print(int 2))":                         "unary -(int 1)",
		"binary +(int 1, int 2, print(int 3))":                 "binary +(int 1, int 2)",
		"binary &&(bool true, bool true, print(int 3))":        "binary &&(bool true, bool true)",
		"dot 1(int 1, print(int 2))":                           "dot 1(int 1)",
		"if(bool true, int 1, int 2, print(int 3))":            "if(bool true, int 1, int 2)",
		"block(let x@0(int 1, print(int 2)), local x@0)":       "block(let x@0(int 1), local x@0)",
		"block(assign p(int 1, print(int 2)), int 3)":          "block(assign p(int 1), int 3)",
		"block(while(bool true, int 1, print(int 2)), int 3)":  "block(while(bool true, int 1), int 3)",
		"block(print(int 1, print(int 2)), int 3)":             "block(print(int 1), int 3)",
		"block(do(int 1, print(int 2)), int 3)":                "block(do(int 1), int 3)",
		"block(int 1(print(int 2)), local p(print(int 2)))":    "block(int 1, local p)",
		"block(global p::c(print(int 2)), bad(print(int 2)))":  "block(global p::c, bad)",
		"block(bool true(print(int 2)), unit(print(int 2)))":   "block(bool true, unit)",
		"block(local y@7(print(int 2)), name n(print(int 2)))": "block(local y@7, name n)",
	} {
		for _, args := range []string{"", "p"} {
			checkBody(t, function(args, value), showCode(bodyOf(function(args, want))))
		}
	}
}

// A node without a value, where one is needed, is the register 0, also where that is none that was written.
func TestNodesWithoutAValue(t *testing.T) {
	for value, want := range map[string]string{
		"block": "0/1: return r0", "block(block, block(block))": "0/1: return r0", "unary -(block)": "0/1: r0 = -r0, return r0", "binary -(int 1, block)": "0/2: r0 = 1, r1 = r0 - r0, return r1",
		"binary -(block, int 1)": "0/2: r0 = 1, r1 = r0 - r0, return r1", "call p::f(block, int 1, do(int 2))": "0/3: r0 = 1, r1 = 2, r2 = call p::f(r0 r0 r0), return r2", "new p::R(block)": "0/1: r0 = new(r0), return r0", "dot 3(block)": "0/1: r0 = r0.3, return r0",
		"let x@0(int 1)": "0/2: r0 = 1, r1 = r0, return r0", "assign x@0(int 1)": "0/1: r0 = 1, return r0", "print(int 1)": "0/1: r0 = 1, print r0, return r0", "do(int 1)": "0/1: r0 = 1, return r0", "while(bool true, int 1)": "0/2: r0 = 1, zero r0 4, r1 = 1, go 0, return r0",
		"block(int 5, int 6, do(int 7))": "0/3: r0 = 5, r1 = 6, r2 = 7, return r0", "block(int 5, block)": "0/1: r0 = 5, return r0", "block(int 5, block(print(int 6)))": "0/2: r0 = 5, r1 = 6, print r1, return r0",
		"print(block)": "0/1: print r0, return r0", "do(block)": "0/1: return r0", "let x@0(block)": "0/1: r0 = r0, return r0", "block(int 5, let x@0(let y@1(int 6)), local x@0)": "0/5: r0 = 5, r1 = 6, r2 = r1, r3 = r0, r4 = r3, return r4",
		"while(block, block)": "0/1: zero r0 2, go 0, return r0", "if(block, block, block)": "0/1: zero r0 3, r0 = r0, go 4, r0 = r0, return r0", "if(do(int 1), print(int 2), int 3)": "0/4: r0 = 1, zero r0 6, r2 = 2, print r2, r1 = r0, go 8, r3 = 3, r1 = r3, return r1",
		"binary &&(block, block)": "0/1: r0 = r0, zero r0 3, r0 = r0, return r0", "binary ||(block, block)": "0/2: r0 = r0, r1 = !r0, zero r1 4, r0 = r0, return r0",
	} {
		checkBody(t, constant(value), want)
	}
	// it is the first parameter, if there is one
	for value, want := range map[string]string{
		"block": "2/2: return r0", "unary -(block)": "2/3: r2 = -r0, return r2", "let x@2(int 1)": "2/4: r2 = 1, r3 = r2, return r0", "assign q(block)": "2/2: r1 = r0, return r0", "print(do(int 1))": "2/3: r2 = 1, print r0, return r0", "while(block, let x@2(block))": "2/3: zero r0 3, r2 = r0, go 0, return r0",
		"if(block, block, print(block))": "2/3: zero r0 3, r2 = r0, go 5, print r0, r2 = r0, return r2", "call p::f(block)": "2/3: r2 = call p::f(r0), return r2", "binary ||(block, let y@3(block))": "2/5: r2 = r0, r3 = !r2, zero r3 5, r4 = r0, r2 = r0, return r2",
	} {
		checkBody(t, function("p q", value), want)
	}
}

func TestStatements(t *testing.T) {
	for value, want := range map[string]string{
		"block(int 1)": "0/1: r0 = 1, return r0", "block(int 1, int 2)": "0/2: r0 = 1, r1 = 2, return r1", "block(block(int 1), block(block(int 2), int 3))": "0/3: r0 = 1, r1 = 2, r2 = 3, return r2",
		"block(print(int 1), unit)": "0/2: r0 = 1, print r0, r1 = 0, return r1", "block(print, unit)": "0/2: r0 = global, print r0, r1 = 0, return r1", "block(print(binary +(int 1, int 2)), print(int 3), unit)": "0/5: r0 = 1, r1 = 2, r2 = r0 + r1, print r2, r3 = 3, print r3, r4 = 0, return r4",
		"block(do(int 1), unit)": "0/2: r0 = 1, r1 = 0, return r1", "block(do, unit)": "0/2: r0 = global, r1 = 0, return r1", "block(do(call p::f), unit)": "0/2: r0 = call p::f(), r1 = 0, return r1",
		"block(bad, int 2)": "0/2: r0 = global, r1 = 2, return r1", "block(print 7(int 1), do x(int 2), unit)": "0/3: r0 = 1, print r0, r1 = 2, r2 = 0, return r2", "block x(int 1)": "0/1: r0 = 1, return r0",
	} {
		checkValue(t, value, want)
	}
}

// A definition is its last Kid; what is before it does not matter, but for the KArgs of a KFn.
func TestDefinitions(t *testing.T) {
	for text, want := range map[string]string{
		"const k(type int, int 1)": "0/1: r0 = 1, return r0", "const k(int 1, int 2)": "0/1: r0 = 2, return r0", "const k(zero, print(int 1), int 2)": "0/1: r0 = 2, return r0", "const(type int, int 1)": "0/1: r0 = 1, return r0",
		"fn f(params, args, type int, int 1)": "0/1: r0 = 1, return r0", "fn f(int 1, int 2)": "0/1: r0 = 2, return r0", "fn(params, int 1)": "0/1: r0 = 1, return r0",
		"fn f(params, args(arg x@0(type int)), type int, local x@0)": "1/2: r1 = r0, return r1", "fn f(args(arg x@0), local x@0)": "1/2: r1 = r0, return r1", "fn f(params, args(arg x@0, arg y@1, arg z@2), type int, local z@2)": "3/4: r3 = r2, return r3",
		"fn f(args(arg a), args(arg b), local b)": "2/3: r2 = r1, return r2", "fn f(args(arg a, name b, param c, arg d), local d)": "2/3: r2 = r1, return r2", "fn f(params(arg a), arg b, block(arg c), args(arg d), local d)": "1/2: r1 = r0, return r1",
		"fn f(int 1, args(arg a, arg b))": "2/3: r2 = global, return r2", "fn f(args(args(arg a)), int 1)": "0/1: r0 = 1, return r0", "fn f(args(arg a, arg b), block)": "2/2: return r0", "fn f(args(arg a), print(local a))": "1/2: r1 = r0, print r1, return r0",
		// a KConst has no parameters
		"const k(args(arg x@0), local x@0)": "0/1: r0 = global, return r0", "const k(args(arg x@0), int 1)": "0/1: r0 = 1, return r0",
	} {
		checkBody(t, of(text), want)
	}
}

// Trees that are no KFn or KConst, or have fewer than two Kids, have no value; a KFn keeps its parameters.
func TestOtherTrees(t *testing.T) {
	for text, params := range map[string]int{
		"zero": 0, "const k": 0, "const k(int 1)": 0, "const k(args(arg x@0, arg y@1))": 0, "fn f": 0, "fn f(int 1)": 0, "fn f(block(call p::f))": 0, "fn f(params(arg x))": 0, "fn f(args)": 0, "fn f(args(arg x@0))": 1, "fn f(args(arg x@0, arg y@1, arg x@0))": 3, "fn f(args(name n, arg x))": 1,
		"int 1": 0, "block(int 1, int 2)": 0, "block(args(arg x@0), int 2)": 0, "call p::f(int 1, int 2)": 0, "bad(params, int 1)": 0, "macro m(args(arg x), int 1)": 0, "sig s(args(arg x), type int)": 0, "impl p::S(params, type int, fn f(params, args(arg x), type int, int 1))": 0,
		"module(const k(type int, int 1), const l(type int, int 1))": 0, "record r(params, args(arg x(type int)))": 0, "trait t(supers, sig s(args(arg x), type int))": 0, "arg x(type int, int 1)": 0, "args(arg x(type int), arg y(type int))": 0, "let x@0(int 1, int 2)": 0,
	} {
		want := strconv.Itoa(params) + "/" + strconv.Itoa(max(params, 1)) + ": r0 = global, return r0"
		in := of(text)
		checkBody(t, in, want)
		if got := lower.Calls(in, nil, nil); len(got) > 0 {
			t.Errorf("%s calls %s", text, exactTypes(got))
		}
	}
	for _, kind := range []int{-1, 0, 1, 2, 5, 9, 16, 41} {
		in := constant("int 1")
		in.Kind = kind
		checkBody(t, in, "0/1: r0 = global, return r0")
	}
}

// Each node has new registers from the number of parameters on.
func TestRegisters(t *testing.T) {
	for n := range 40 {
		names := ""
		for i := range n {
			names += " x@" + strconv.Itoa(i)
		}
		got := lower.Body(function(names, "binary +(int 1, if(bool true, int 2, unary -(int 3)))"), nil, nil, nil)
		want := raised(lower.Body(function("", "binary +(int 1, if(bool true, int 2, unary -(int 3)))"), nil, nil, nil), n)
		if showCode(got) != showCode(want) || got.Params != n || got.Regs != n+7 || got.Ops[len(got.Ops)-1].Kind != api.OpReturn {
			t.Errorf("with %d parameters: %s", n, showCode(got))
		}
	}
}
