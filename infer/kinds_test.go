package infer_test

import (
	"strings"
	"testing"

	"recompile/api"
	"recompile/infer"
)

// definitions are what the trees of these tests name.
func definitions() []api.Known {
	return known(`
		p::i const = int; p::b const = bool; p::u const = unit; p::e const = error; p::r const = p::R; p::l const = p::L<int>;
		p::f fn | int bool = int; p::g fn = unit; p::two fn | p::R p::R = bool; p::id fn T | $T = $T; p::same fn T | $T $T = $T; p::any fn T = $T; p::head fn T | p::L<$T> = $T; p::put fn T:p::S U | $T p::L<$U> = p::P<$U,$T>;
		p::m method Self:p::S | $Self int = $Self;
		p::R record | a:int b:bool = p::R; p::L record T | head:$T tail:p::L<$T> = p::L<$T>; p::P record T U:p::Q | a:$T b:$U c:p::L<$T> = p::P<$T,$U>; p::N record = p::N; p::E record T = p::E<$T>;
		p::S trait; p::x macro; p::y impl; p::z none`)
}

// checkValue tests what Body makes of a constant of a type with a value, without goals; the places of the value begin with the number of nodes of the type and one more.
func checkValue(t *testing.T, result, value, want, diags string) {
	t.Helper()
	checkBody(t, constant(result, value), definitions(), want, diags, "")
}

// checkType tests of which type a value is: a constant of another one is a diagnostic at the value. It returns a KBad's type as error.
func checkType(t *testing.T, value, want string) {
	t.Helper()
	for _, result := range strings.Fields("int bool unit p::R p::N p::L<int> p::L<bool> p::L<p::R> $T p::P<int,bool> p::P<bool,int> p::E<int>") {
		in := constant(result, value)
		diags := ""
		if want != "error" && result != want {
			diags = "9@" + strings.Fields(strings.ReplaceAll(places(in.Kids[1]), "(", " "))[0]
		}
		if got := showDiags(infer.Body(in, definitions()).Diags); got != diags {
			t.Errorf("a constant of the type %s with the value %s: %s, expected %s", result, value, got, diags)
		}
	}
}

func TestValues(t *testing.T) {
	for value, want := range map[string]string{
		"int 1": "int", "int": "int", "int x": "int", "bool true": "bool", "bool": "bool", "unit": "unit", "bad x": "error", "bad": "error",
		"global p::i": "int", "global p::b": "bool", "global p::u": "unit", "global p::e": "error", "global p::r": "p::R", "global p::l": "p::L<int>",
		"unary -(int 1)": "int", "unary !(bool true)": "bool", "block(int 1, bool true)": "bool", "block(bool true, unit)": "unit", "block(block(block(global p::l)))": "p::L<int>", "block": "error",
		"binary +(int 1, int 2)": "int", "binary -(int 1, int 2)": "int", "binary *(int 1, int 2)": "int", "binary /(int 1, int 2)": "int", "binary %(int 1, int 2)": "int",
		"binary <(int 1, int 2)": "bool", "binary ==(int 1, int 2)": "bool", "binary &&(bool true, bool false)": "bool", "binary ||(bool true, bool false)": "bool",
		"if(bool true, int 1, int 2)": "int", "if(bool true, block(unit), block(unit))": "unit", "if(bool true, global p::r, global p::r)": "p::R",
		"let x@0(int 1)": "unit", "assign x@0(int 1)": "unit", "while(bool true, int 1)": "unit", "print(int 1)": "unit", "do(int 1)": "unit", "let x@0": "unit", "assign x@0": "unit", "while": "unit", "print": "unit", "do": "unit",
		"call p::f(int 1, bool true)": "int", "call p::g": "unit", "call p::id(int 1)": "int", "call p::id(global p::l)": "p::L<int>", "call p::head(global p::l)": "int", "call p::m(bool true, int 1)": "bool", "call p::put(bool true, global p::l)": "p::P<int,bool>",
		"new p::R(int 1, bool true)": "p::R", "new p::N": "p::N", "new p::L(int 1, global p::l)": "p::L<int>", "new p::P(int 1, bool true, global p::l)": "p::P<int,bool>",
		"dot a(global p::r)": "int", "dot b(global p::r)": "bool", "dot tail(global p::l)": "p::L<int>", "dot head(global p::l)": "int",
		"local x@0": "error", "dot a": "error", "dot a(bad x)": "error",
	} {
		checkType(t, value, want)
	}
}

// Kinds that the chapter does not name have the type error, and what is below them is visited.
func TestOtherKinds(t *testing.T) {
	for _, word := range strings.Fields("zero use pubuse const fn record trait impl macro sig params param args arg supers type name expand bad module") {
		checkType(t, word+" x", "error")
		checkType(t, word+"(int 1)", "error")
		checkValue(t, "int", word+" p::f(int 1, bool true)", word+" p::f(int 1, bool true)", "")
		checkValue(t, "int", word+" p::f(unary -(bool true), call p::id(int 1))", word+" p::f(unary -(bool true), call p::id<int>(int 1))", "9@4")
	}
	for _, kind := range []int{-7, -1, 16, 19, 41, 99} {
		in := constant("int", "block(bad x(unary -(bool true)), int 1)")
		in.Kids[1].Kids[0].Kind = kind
		got := infer.Body(in, nil)
		if showDiags(got.Diags) != "9@5" || exact(got.Tree) != exact(in) {
			t.Errorf("the kind %d: %s, with %s", kind, show(got.Tree), showDiags(got.Diags))
		}
		in = constant("bool", "unary -(bad)")
		in.Kids[1].Kids[0].Kind = kind
		if got := infer.Body(in, nil); showDiags(got.Diags) != "9@2" {
			t.Errorf("the kind %d is no error: %s", kind, showDiags(got.Diags))
		}
	}
}

// Each equation of a KUnary or a KBinary, kept and dropped.
func TestSigns(t *testing.T) {
	for sign, c := range map[string]struct{ operand, value string }{"-": {"int", "int"}, "!": {"bool", "bool"}, "+": {"int", "int"}, "": {"int", "int"}, "&&": {"int", "int"}, "==": {"int", "int"}, "x": {"int", "int"}} {
		checkSign(t, strings.TrimSpace("unary "+sign), 1, c.operand, c.value)
	}
	for sign, c := range map[string]struct{ operand, value string }{
		"+": {"int", "int"}, "-": {"int", "int"}, "*": {"int", "int"}, "/": {"int", "int"}, "%": {"int", "int"}, "<": {"int", "bool"}, "==": {"int", "bool"}, "&&": {"bool", "bool"}, "||": {"bool", "bool"},
		"!": {"int", "int"}, "": {"int", "int"}, "&": {"int", "int"}, "<=": {"int", "int"}, "x": {"int", "int"}, "=": {"int", "int"}, "|": {"int", "int"},
	} {
		checkSign(t, strings.TrimSpace("binary "+sign), 2, c.operand, c.value)
	}
}

// checkSign tests a sign with operands of its type, of others, and without some.
func checkSign(t *testing.T, sign string, count int, operand, value string) {
	t.Helper()
	values := map[string]string{"int": "int 1", "bool": "bool true", "unit": "unit", "error": "bad", "p::R": "global p::r"}
	for a, left := range values {
		for b, right := range values {
			in, want := sign+"("+left+", "+right+")", ""
			if count == 1 {
				in = sign + "(" + left + ")"
			}
			if a != operand && a != "error" {
				want = ", 9@3"
			}
			if b != operand && b != "error" && count == 2 {
				want += ", 9@4"
			}
			checkValue(t, value, in, in, strings.TrimPrefix(want, ", "))
			checkValue(t, "p::N", in, in, strings.TrimPrefix(want+", 9@2", ", "))
		}
		in := sign + "(" + left + ")"
		if a == operand || a == "error" {
			checkValue(t, value, in, in, "")
		} else {
			checkValue(t, value, in, in, "9@3")
		}
	}
	checkType(t, sign, value)
	checkType(t, sign+"(bad, bad)", value)
	// further Kids do not matter, but they are visited
	checkValue(t, value, sign+"(bad, bad, bad, unit, unary -(unit))", sign+"(bad, bad, bad, unit, unary -(unit))", "9@8")
	if count == 1 {
		checkValue(t, value, sign+"(bad, unit)", sign+"(bad, unit)", "")
	}
}

// Each equation of a KIf, a KWhile, a KPrint and of others that take a value, kept and dropped.
func TestStatements(t *testing.T) {
	for _, c := range []struct{ result, value, diags string }{
		{"int", "if(bool true, int 1, int 2)", ""}, {"int", "if(int 1, int 1, int 2)", "9@3"}, {"int", "if(bool true, int 1, bool true)", "9@5"}, {"int", "if(bool true, bool true, int 1)", "9@5, 9@2"}, {"bool", "if(bool true, int 1, bool true)", "9@5, 9@2"},
		{"bool", "if(unit, int 1, unit)", "9@3, 9@5, 9@2"}, {"int", "if(bad, bad, int 1)", ""}, {"bool", "if(bad, bad, int 1)", ""}, {"bool", "if(bad, int 1, bad)", "9@2"}, {"unit", "if(unit, unit)", "9@3"},
		{"int", "if(bool true, int 1)", ""}, {"bool", "if(bool true, int 1)", "9@2"}, {"int", "if(bool true)", ""}, {"int", "if(int 1)", "9@3"}, {"int", "if", ""}, {"int", "if(bool true, int 1, int 2, unit)", ""}, {"int", "if(bool true, int 1, int 2, unary -(unit))", "9@7"},
		{"unit", "while(bool true, int 1)", ""}, {"unit", "while(int 1, int 1)", "9@3"}, {"unit", "while(bad, unit)", ""}, {"int", "while(bool true, int 1)", "9@2"}, {"unit", "while(unit)", "9@3"}, {"unit", "while(bool true, unary -(unit))", "9@5"},
		{"unit", "print(int 1)", ""}, {"unit", "print(bool true)", "9@3"}, {"unit", "print(unit)", "9@3"}, {"unit", "print(bad)", ""}, {"int", "print(int 1)", "9@2"}, {"unit", "print(int 1, unit)", ""}, {"unit", "print(global p::r)", "9@3"},
		{"unit", "do(int 1)", ""}, {"unit", "do(unit)", ""}, {"unit", "do(global p::r)", ""}, {"int", "do(int 1)", "9@2"}, {"unit", "do(unary -(unit))", "9@4"},
		{"int", "block(unit, int 1)", ""}, {"unit", "block(int 1, unit, bool true)", "9@2"}, {"int", "block(unary -(unit), int 1)", "9@4"}, {"bool", "block(block(int 1))", "9@2"},
		{"unit", "let x@0(int 1)", ""}, {"int", "let x@0(int 1)", "9@2"}, {"unit", "let x@0(unary -(unit))", "9@4"}, {"unit", "assign x@0(unary -(unit))", "9@4"}, {"int", "assign x@0(int 1)", "9@2"},
	} {
		checkValue(t, c.result, c.value, c.value, c.diags)
	}
}

func TestTheResultOfTheDefinition(t *testing.T) {
	for _, c := range []struct{ in, diags string }{
		{"const k(type int, int 1)", ""}, {"const k(type bool, int 1)", "9@2"}, {"const k(type p::R, global p::r)", ""}, {"const k(type p::L(type int), global p::l)", ""}, {"const k(type p::L(type bool), global p::l)", "9@3"}, {"const k(type error, int 1)", ""}, {"const k(type p::L(type error), global p::l)", ""},
		// the type is the first Kid of a KConst, the third one of a KFn; what is no KTypeOf, or missing, is the type error; the value is the last Kid
		{"const k(int 1, int 1)", ""}, {"const k(type bool, type int, bool true)", ""}, {"const k(type bool, type int, int 1)", "9@3"}, {"const k(name int, bool true)", ""}, {"const k(zero, int 1)", ""},
		{"fn f(params, args, type int, int 1)", ""}, {"fn f(params, args, type int, bool true)", "9@4"}, {"fn f(params, args, type int, type bool, int 1)", ""}, {"fn f(params, args, type int, type bool, bool true)", "9@5"}, {"fn f(params, args, zero, bool true)", ""},
		{"fn f(params, args)", ""}, {"fn f(params, int 1)", ""}, {"fn f(params, args, int 1)", ""}, {"fn f(type int, type int, type int)", ""}, {"fn f(params, args, type unit, block(unit))", ""},
		{"fn f(params(param T), args, type $T, call p::any)", ""}, {"fn f(params(param T), args, type $T, int 1)", "9@5"}, {"fn f(params(param T), args(arg x@0(type $T)), type $T, local x@0)", ""}, {"fn f(params(param T, param U), args(arg x@0(type $T)), type $U, local x@0)", "9@8"},
	} {
		in := of(c.in)
		if got := infer.Body(in, definitions()); showDiags(got.Diags) != c.diags {
			t.Errorf("%s: %s, expected %s", c.in, showDiags(got.Diags), c.diags)
		}
	}
	// it gives the type of what has none without it
	checkBody(t, function("T", "", "$T", "call p::any"), definitions(), "call p::any<$T>", "", "")
	checkBody(t, function("", "", "p::L<bool>", "block(block(call p::any))"), definitions(), "block(block(call p::any<p::L<bool>>))", "", "")
	checkBody(t, constant("error", "call p::any"), definitions(), "call p::any<error>", "", "")
}

// Trees that are no KFn or KConst, or have fewer than two Kids, stay as they are.
func TestOtherTrees(t *testing.T) {
	for _, text := range []string{
		"zero", "const k", "fn f", "const k(call p::id(int 1))", "const k(type int)", "fn f(call p::z)", "call p::id(int 1)", "block(call p::id(int 1), call p::none)", "module(const k(type int, call p::id(int 1)), int 1)",
		"impl p::S(params, type int, fn f(params, args, type int, call p::id(int 1)))", "macro m(args, call p::id(int 1))", "record k(params, args)", "trait k(supers, call p::z)", "sig k(args, type int, call p::z)", "bad(bad, call p::z)", "let x@0(int 1, unary -(unit))",
	} {
		in := of(text)
		if got := infer.Body(in, definitions()); exactInferred(got) != exactInferred(api.Inferred{Tree: in}) {
			t.Errorf("%s became %s", text, exactInferred(got))
		}
	}
}
