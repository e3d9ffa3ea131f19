package parser_test

import (
	"testing"

	"recompile/parser"
)

func TestPrimaries(t *testing.T) {
	checkTrees(t, parser.Expr, []example{
		{"1", "(Int 0 1)"},
		{" 007 // seven", "(Int 1 007)"},
		{"999999999999999999", "(Int 0 999999999999999999)"},
		{"true", "(Bool 0 true)"},
		{"false", "(Bool 0 false)"},
		{"x", "(Name 0 x)"},
		{"f()", "(Call 0 f)"},
		{"f ( a , 1 + 2 )", "(Call 0 f (Name 4 a) (Binary 8 + (Int 8 1) (Int 12 2)))"},
		{"f(g(), h(1))", "(Call 0 f (Call 2 g) (Call 7 h (Int 9 1)))"},
		{"m!()", "(Expand 0 m)"},
		{"m ! ( a, b )", "(Expand 0 m (Name 6 a) (Name 9 b))"},
		{"new A()", "(New 0 A)"},
		{"new A(1, x)", "(New 0 A (Int 6 1) (Name 9 x))"},
		{"(1)", "(Int 1 1)"},
		{"((x))", "(Name 2 x)"},
		{"if a { 1 } else { 2 }", "(If 0 (Name 3 a) (Block 5 (Int 7 1)) (Block 16 (Int 18 2)))"},
		{"if {a} {} else {}", "(If 0 (Block 3 (Name 4 a)) (Block 7 (Unit 8)) (Block 15 (Unit 16)))"},
		{"{ 1 }", "(Block 0 (Int 2 1))"},
		{"{{}}", "(Block 0 (Block 1 (Unit 2)))"},
	})
}

func TestUnaryAndDots(t *testing.T) {
	checkTrees(t, parser.Expr, []example{
		{"-1", "(Unary 0 - (Int 1 1))"},
		{"! x", "(Unary 0 ! (Name 2 x))"},
		{"-!-x", "(Unary 0 - (Unary 1 ! (Unary 2 - (Name 3 x))))"},
		{"-(x)", "(Unary 0 - (Name 2 x))"},
		{"-a.b", "(Unary 0 - (Dot 1 b (Name 1 a)))"},
		{"(-a).b", "(Dot 1 b (Unary 1 - (Name 2 a)))"},
		{"a.b", "(Dot 0 b (Name 0 a))"},
		{"a . b . c", "(Dot 0 c (Dot 0 b (Name 0 a)))"},
		{"(a).b", "(Dot 1 b (Name 1 a))"},
		{"f(x).y", "(Dot 0 y (Call 0 f (Name 2 x)))"},
		{"m!(x).y", "(Dot 0 y (Expand 0 m (Name 3 x)))"},
		{"new A().x", "(Dot 0 x (New 0 A))"},
		{"1.a", "(Dot 0 a (Int 0 1))"},
		{"true.a", "(Dot 0 a (Bool 0 true))"},
		{"{}.a", "(Dot 0 a (Block 0 (Unit 1)))"},
		{"if a {} else {}.b", "(Dot 0 b (If 0 (Name 3 a) (Block 5 (Unit 6)) (Block 13 (Unit 14))))"},
	})
}

func TestBinaries(t *testing.T) {
	checkTrees(t, parser.Expr, []example{
		{"a||b", "(Binary 0 || (Name 0 a) (Name 3 b))"},
		{"a&&b", "(Binary 0 && (Name 0 a) (Name 3 b))"},
		{"a<b", "(Binary 0 < (Name 0 a) (Name 2 b))"},
		{"a==b", "(Binary 0 == (Name 0 a) (Name 3 b))"},
		{"a+b", "(Binary 0 + (Name 0 a) (Name 2 b))"},
		{"a-b", "(Binary 0 - (Name 0 a) (Name 2 b))"},
		{"a*b", "(Binary 0 * (Name 0 a) (Name 2 b))"},
		{"a/b", "(Binary 0 / (Name 0 a) (Name 2 b))"},
		{"a%b", "(Binary 0 % (Name 0 a) (Name 2 b))"},
	})
}

func TestBinariesFromTheLeft(t *testing.T) {
	checkTrees(t, parser.Expr, []example{
		{"a||b||c", "(Binary 0 || (Binary 0 || (Name 0 a) (Name 3 b)) (Name 6 c))"},
		{"a&&b&&c", "(Binary 0 && (Binary 0 && (Name 0 a) (Name 3 b)) (Name 6 c))"},
		{"a+b-c", "(Binary 0 - (Binary 0 + (Name 0 a) (Name 2 b)) (Name 4 c))"},
		{"a-b+c", "(Binary 0 + (Binary 0 - (Name 0 a) (Name 2 b)) (Name 4 c))"},
		{"a*b/c%d", "(Binary 0 % (Binary 0 / (Binary 0 * (Name 0 a) (Name 2 b)) (Name 4 c)) (Name 6 d))"},
		{"a-(b-c)", "(Binary 0 - (Name 0 a) (Binary 3 - (Name 3 b) (Name 5 c)))"},
		{"(a-b)-c", "(Binary 1 - (Binary 1 - (Name 1 a) (Name 3 b)) (Name 6 c))"},
	})
}

func TestWhatBindsMore(t *testing.T) {
	checkTrees(t, parser.Expr, []example{
		{"a||b&&c", "(Binary 0 || (Name 0 a) (Binary 3 && (Name 3 b) (Name 6 c)))"},
		{"a&&b||c", "(Binary 0 || (Binary 0 && (Name 0 a) (Name 3 b)) (Name 6 c))"},
		{"a&&b<c", "(Binary 0 && (Name 0 a) (Binary 3 < (Name 3 b) (Name 5 c)))"},
		{"a==b&&c<d", "(Binary 0 && (Binary 0 == (Name 0 a) (Name 3 b)) (Binary 6 < (Name 6 c) (Name 8 d)))"},
		{"a<b+c", "(Binary 0 < (Name 0 a) (Binary 2 + (Name 2 b) (Name 4 c)))"},
		{"a+b==c", "(Binary 0 == (Binary 0 + (Name 0 a) (Name 2 b)) (Name 5 c))"},
		{"a+b*c", "(Binary 0 + (Name 0 a) (Binary 2 * (Name 2 b) (Name 4 c)))"},
		{"a*b-c", "(Binary 0 - (Binary 0 * (Name 0 a) (Name 2 b)) (Name 4 c))"},
		{"(a+b)*c", "(Binary 1 * (Binary 1 + (Name 1 a) (Name 3 b)) (Name 6 c))"},
		{"a*-b", "(Binary 0 * (Name 0 a) (Unary 2 - (Name 3 b)))"},
		{"-a*b", "(Binary 0 * (Unary 0 - (Name 1 a)) (Name 3 b))"},
		{"-a+b", "(Binary 0 + (Unary 0 - (Name 1 a)) (Name 3 b))"},
		{"a - -b", "(Binary 0 - (Name 0 a) (Unary 4 - (Name 5 b)))"},
		{"!a==b", "(Binary 0 == (Unary 0 ! (Name 1 a)) (Name 4 b))"},
		{"(a<b)==c", "(Binary 1 == (Binary 1 < (Name 1 a) (Name 3 b)) (Name 7 c))"},
		{"a<(b<c)", "(Binary 0 < (Name 0 a) (Binary 3 < (Name 3 b) (Name 5 c)))"},
		{"a<b||c<d", "(Binary 0 || (Binary 0 < (Name 0 a) (Name 2 b)) (Binary 5 < (Name 5 c) (Name 7 d)))"},
		{"if a {1} else {2} + 3", "(Binary 0 + (If 0 (Name 3 a) (Block 5 (Int 6 1)) (Block 14 (Int 15 2))) (Int 20 3))"},
	})
}

func TestStatements(t *testing.T) {
	checkTrees(t, parser.Expr, []example{
		{"{}", "(Block 0 (Unit 1))"},
		{"{ }", "(Block 0 (Unit 2))"},
		{"{ let x = 1; }", "(Block 0 (Let 2 x (Int 10 1)) (Unit 13))"},
		{"{ let x = 1; x }", "(Block 0 (Let 2 x (Int 10 1)) (Name 13 x))"},
		{"{ x = 1; }", "(Block 0 (Assign 2 x (Int 6 1)) (Unit 9))"},
		{"{ x == 1; }", "(Block 0 (Do 2 (Binary 2 == (Name 2 x) (Int 7 1))) (Unit 10))"},
		{"{ x == 1 }", "(Block 0 (Binary 2 == (Name 2 x) (Int 7 1)))"},
		{"{ while a { b; } }", "(Block 0 (While 2 (Name 8 a) (Block 10 (Do 12 (Name 12 b)) (Unit 15))) (Unit 17))"},
		{"{ while a {} {} }", "(Block 0 (While 2 (Name 8 a) (Block 10 (Unit 11))) (Block 13 (Unit 14)))"},
		{"{ while a {} while b {} 1 }",
			"(Block 0 (While 2 (Name 8 a) (Block 10 (Unit 11))) (While 13 (Name 19 b) (Block 21 (Unit 22))) (Int 24 1))"},
		{"{ print 1; }", "(Block 0 (Print 2 (Int 8 1)) (Unit 11))"},
		{"{ f(); }", "(Block 0 (Do 2 (Call 2 f)) (Unit 7))"},
		{"{ f() }", "(Block 0 (Call 2 f))"},
		{"{ (a); }", "(Block 0 (Do 3 (Name 3 a)) (Unit 7))"},
		{"{ (a) + b; }", "(Block 0 (Do 3 (Binary 3 + (Name 3 a) (Name 8 b))) (Unit 11))"},
		{"{ {}; {} }", "(Block 0 (Do 2 (Block 2 (Unit 3))) (Block 6 (Unit 7)))"},
		{"{ if a {} else {}; }", "(Block 0 (Do 2 (If 2 (Name 5 a) (Block 7 (Unit 8)) (Block 15 (Unit 16)))) (Unit 19))"},
		{"{ if a {} else {} }", "(Block 0 (If 2 (Name 5 a) (Block 7 (Unit 8)) (Block 15 (Unit 16))))"},
		{"{ let x = 1; x = x + 1; print x; f(x); while x { } x }",
			"(Block 0 (Let 2 x (Int 10 1)) (Assign 13 x (Binary 17 + (Name 17 x) (Int 21 1))) (Print 24 (Name 30 x))" +
				" (Do 33 (Call 33 f (Name 35 x))) (While 39 (Name 45 x) (Block 47 (Unit 49))) (Name 51 x))"},
		{"{ let x = { let y = 1; y }; x }", "(Block 0 (Let 2 x (Block 10 (Let 12 y (Int 20 1)) (Name 23 y))) (Name 28 x))"},
	})
}

func TestTextsThatAreNoExpr(t *testing.T) {
	var l []example
	for _, text := range []string{
		"", " ", "// 1", ";", "1;", "1 2", "1a", "a b", "a)", "(a", "()", "a = 1", "let x = 1;", "print 1;", "while a {}",
		"a < b < c", "a == b == c", "a < b == c", "a == b < c", "a +", "+ a", "a + + b", "a * * b", "a -> b", "a > b", "a & b", "a | b",
		"a.", ".a", "a.1", "a.b()", "a..b", "a.int", "f(", "f(,)", "f(a,)", "f(a b)", "f(,a)", "f(a;b)", "f()()", "(f)()", "m!", "m!a", "m!(", "m!(a,)",
		"new", "new A", "new A(", "new A(a,)", "new (a)", "new new A()", "new int()", "new A<int>()", "if a {}", "if a 1 else 2", "if a {} else if b {} else {}",
		"if {} else {}", "if a {} {}", "else {}", "{", "}", "{ 1", "{ let }", "{ let x }", "{ let x = }", "{ let x = 1 }", "{ let x: int = 1; }", "{ let 1 = 1; }",
		"{ x = 1 }", "{ x = ; }", "{ x = y = 1; }", "{ (x) = 1; }", "{ 1 = 1; }", "{ a.b = 1; }", "{ while {} }", "{ while a; }", "{ while a {}; }", "{ print }", "{ print ; }",
		"{ print 1 }", "{ ; }", "{ 1;; }", "{ 1 2 }", "{ {} {} }", "{ use a; }", "{ fn f() {} }", "int", "Self", "for", "use", "fn", "use a;", "#", "1 #", "\xff",
	} {
		l = append(l, example{text, ""})
	}
	checkTrees(t, parser.Expr, l)
}

func TestTypes(t *testing.T) {
	checkTrees(t, parser.Type, []example{
		{"int", "(TypeOf 0 int)"},
		{" bool // yes or no", "(TypeOf 1 bool)"},
		{"unit", "(TypeOf 0 unit)"},
		{"A", "(TypeOf 0 A)"},
		{"error", "(TypeOf 0 error)"},
		{"A<int>", "(TypeOf 0 A (TypeOf 2 int))"},
		{"A < B , bool >", "(TypeOf 0 A (TypeOf 4 B) (TypeOf 8 bool))"},
		{"A<B<C<int>>,D>", "(TypeOf 0 A (TypeOf 2 B (TypeOf 4 C (TypeOf 6 int))) (TypeOf 12 D))"},
	})
	var none []example
	for _, text := range []string{
		"", " ", "// int", "Self", "A<Self>", "1", "true", "fn", "int int", "int<A>", "bool<A>", "unit<A>", "A B", "A<", "A<>", "A<int", "A<int,>", "A<,int>",
		"A<int B>", "A>", "A<int>>", "A<B>C", "<int>", "(int)", "A()", "A.B", "A:B", "A::B", "A<1>", "A<(int)>", "A;", ";", "A&", "#",
	} {
		none = append(none, example{text, ""})
	}
	checkTrees(t, parser.Type, none)
}
