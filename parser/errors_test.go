package parser_test

import (
	"slices"
	"strings"
	"testing"

	"recompile/parser"
)

// What can come first.
const (
	typeFirst  = "int bool unit a b7"
	selfFirst  = typeFirst + " Self"
	exprFirst  = "a b7 1 007 true false new if { ( - !"
	blockFirst = exprFirst + " let while print }"
)

// What can come behind a complete prod, sum, or rel, if an expr goes on; behind a name also what makes a post of it.
const (
	morePost = " ."
	moreProd = " * / %"
	moreSum  = moreProd + " + -"
	moreRel  = moreSum + " < =="
	moreAnd  = moreRel + " &&"
	moreExpr = moreAnd + " ||"
)

// goesOn is the beginning of an item and all tokens with which an item goes on as it.
type goesOn struct{ begin, tokens string }

// checkGoesOn tests all tokens behind the beginnings.
func checkGoesOn(t *testing.T, l []goesOn) {
	t.Helper()
	for _, c := range l {
		for _, s := range everyToken() {
			if slices.Contains(strings.Fields(c.tokens), s) {
				checkRight(t, c.begin, s)
			} else {
				checkWrong(t, c.begin, s)
			}
		}
		text := c.begin + " "
		if items, errors := parser.Module(text); len(items) > 0 || !slices.Equal(errors, []int{len(text)}) {
			t.Errorf("%q ends with the errors %v and items", text, errors)
		}
	}
}

// checkRight tests a token with which an item goes on: then it is complete, or the end is what is wrong.
func checkRight(t *testing.T, begin, token string) {
	t.Helper()
	text := begin + " " + token + " "
	items, errors := parser.Module(text)
	complete := len(items) == 1 && len(errors) == 0
	if !complete && (len(items) > 0 || !slices.Equal(errors, []int{len(text)})) {
		t.Errorf("%q does not go on with %q: %d items, errors %v", begin, token, len(items), errors)
	}
}

// checkWrong tests a token with which no item goes on: reading goes on at this one, if it is one of the eight words.
func checkWrong(t *testing.T, begin, token string) {
	t.Helper()
	text := begin + " " + token + " "
	want := []int{len(begin) + 1}
	if beginsItem(token) {
		want = append(want, len(text))
	}
	if items, errors := parser.Module(text); len(items) > 0 || !slices.Equal(errors, want) {
		t.Errorf("Module(%q): %d items, errors %v, expected %v", text, len(items), errors, want)
	}
}

func TestWhereItemsGoOn(t *testing.T) {
	checkGoesOn(t, []goesOn{
		{"use", "a b7"}, {"use a", ";"}, {"pub", "use"}, {"pub use", "a b7"}, {"pub use a", ";"},
		{"const", "a b7"}, {"const a", ":"}, {"const a :", typeFirst}, {"const a : int", "="}, {"const a : A", "= <"},
		{"const a : A < int >", "="}, {"const a : int =", exprFirst}, {"const a : int = 1", morePost + moreExpr + " ;"},
		{"fn", "a b7"}, {"fn f", "( <"}, {"fn f <", "a b7"}, {"fn f < T", ": , >"}, {"fn f < T :", "a b7"}, {"fn f < T : A", ", >"},
		{"fn f < T ,", "a b7"}, {"fn f < T : A ,", "a b7"}, {"fn f < T >", "("}, {"fn f (", "a b7 )"}, {"fn f ( x", ":"},
		{"fn f ( x :", typeFirst}, {"fn f ( x : int", ", )"}, {"fn f ( x : A", ", ) <"}, {"fn f ( x : int ,", "a b7"},
		{"fn f ( )", "-> {"}, {"fn f ( ) ->", typeFirst}, {"fn f ( ) -> int", "{"}, {"fn f ( ) -> A", "{ <"}, {"fn f ( ) {", blockFirst},
		{"fn f ( ) -> A < int >", "{"}, {"fn f ( x : int )", "-> {"},
		{"type", "a b7"}, {"type A", "{ <"}, {"type A <", "a b7"}, {"type A < T", ": , >"}, {"type A < T >", "{"}, {"type A {", "a b7 }"},
		{"type A { x", ":"}, {"type A { x :", typeFirst}, {"type A { x : int", ", }"}, {"type A { x : int ,", "a b7"},
		{"trait", "a b7"}, {"trait T", ": {"}, {"trait T :", "a b7"}, {"trait T : A", "+ {"}, {"trait T : A +", "a b7"},
		{"trait T {", "fn }"}, {"trait T { fn", "a b7"}, {"trait T { fn f", "("}, {"trait T { fn f (", "a b7 )"},
		{"trait T { fn f ( x", ":"}, {"trait T { fn f ( x :", selfFirst}, {"trait T { fn f ( x : int", ", )"}, {"trait T { fn f ( x : Self", ", )"},
		{"trait T { fn f ( x : A <", selfFirst}, {"trait T { fn f ( x : Self ,", "a b7"},
		{"trait T { fn f ( )", "-> ;"}, {"trait T { fn f ( ) ->", selfFirst}, {"trait T { fn f ( ) -> Self", ";"}, {"trait T { fn f ( ) ;", "fn }"},
		{"impl", "a b7 <"}, {"impl <", "a b7"}, {"impl < T", ": , >"}, {"impl < T >", "a b7"}, {"impl A", "for"}, {"impl A for", typeFirst},
		{"impl A for int", "{"}, {"impl A for B", "{ <"}, {"impl A for B {", "fn }"}, {"impl A for B { fn", "a b7"}, {"impl A for B { fn f", "("},
		{"impl A for B { fn f (", "a b7 )"}, {"impl A for B { fn f ( x :", typeFirst}, {"impl A for B { fn f ( )", "-> {"},
		{"impl A for B { fn f ( ) ->", typeFirst}, {"impl A for B { fn f ( ) {", blockFirst}, {"impl A for B { fn f ( ) { }", "fn }"},
		{"macro", "a b7"}, {"macro m", "("}, {"macro m (", "a b7 )"}, {"macro m ( x", ", )"}, {"macro m ( x ,", "a b7"}, {"macro m ( )", "="},
		{"macro m ( ) =", exprFirst}, {"macro m ( ) = 1", morePost + moreExpr + " ;"},
	})
}

func TestWhereTypesGoOn(t *testing.T) {
	checkGoesOn(t, []goesOn{
		{"const a : A <", typeFirst}, {"const a : A < int", ", >"}, {"const a : A < B", ", > <"}, {"const a : A < B <", typeFirst},
		{"const a : A < int ,", typeFirst}, {"const a : A < B < int >", ", >"}, {"type A { x : B <", typeFirst}, {"impl A for B <", typeFirst},
		{"trait T { fn f ( x : A < Self", ", >"}, {"trait T { fn f ( ) -> A < Self ,", selfFirst},
	})
}

func TestWhereExprsGoOn(t *testing.T) {
	const c = "const a : int = "
	checkGoesOn(t, []goesOn{
		{c + "x", "( !" + morePost + moreExpr + " ;"}, {c + "true", morePost + moreExpr + " ;"}, {c + "x .", "a b7"}, {c + "x . y", morePost + moreExpr + " ;"},
		{c + "f (", exprFirst + " )"}, {c + "f ( 1", morePost + moreExpr + " , )"}, {c + "f ( 1 ,", exprFirst}, {c + "f ( )", morePost + moreExpr + " ;"},
		{c + "m !", "("}, {c + "m ! (", exprFirst + " )"}, {c + "m ! ( 1", morePost + moreExpr + " , )"}, {c + "m ! ( 1 ,", exprFirst},
		{c + "m ! ( )", morePost + moreExpr + " ;"}, {c + "new", "a b7"}, {c + "new A", "("}, {c + "new A (", exprFirst + " )"},
		{c + "new A ( 1", morePost + moreExpr + " , )"}, {c + "new A ( 1 ,", exprFirst}, {c + "new A ( )", morePost + moreExpr + " ;"},
		{c + "(", exprFirst}, {c + "( 1", morePost + moreExpr + " )"}, {c + "( 1 )", morePost + moreExpr + " ;"},
		{c + "-", exprFirst}, {c + "!", exprFirst}, {c + "- 1", morePost + moreExpr + " ;"}, {c + "- -", exprFirst},
		{c + "if", exprFirst}, {c + "if 1", morePost + moreExpr + " {"}, {c + "if x", "( !" + morePost + moreExpr + " {"}, {c + "if 1 { }", "else"},
		{c + "if 1 { } else", "{"}, {c + "if 1 { } else { }", morePost + moreExpr + " ;"}, {c + "if { }", morePost + moreExpr + " {"},
		{c + "1 ||", exprFirst}, {c + "1 &&", exprFirst}, {c + "1 <", exprFirst}, {c + "1 ==", exprFirst},
		{c + "1 +", exprFirst}, {c + "1 -", exprFirst}, {c + "1 *", exprFirst}, {c + "1 /", exprFirst}, {c + "1 %", exprFirst},
		{c + "1 || 2", morePost + moreExpr + " ;"}, {c + "1 && 2", morePost + moreExpr + " ;"}, {c + "1 + 2", morePost + moreExpr + " ;"},
		// Behind < or == there is no second one, up to the next && or ||, or the end of parentheses.
		{c + "1 < 2", morePost + moreSum + " && || ;"}, {c + "1 == 2", morePost + moreSum + " && || ;"}, {c + "1 < 2 + 3", morePost + moreSum + " && || ;"},
		{c + "1 < 2 && 3", morePost + moreExpr + " ;"}, {c + "1 == 2 || 3", morePost + moreExpr + " ;"}, {c + "1 < ( 2", morePost + moreExpr + " )"},
		{c + "( 1 < 2 )", morePost + moreExpr + " ;"}, {c + "1 < ( 2 )", morePost + moreSum + " && || ;"},
	})
}

func TestWhereBlocksGoOn(t *testing.T) {
	for _, b := range []string{"fn f ( ) {", "const a : int = {", "impl A for B { fn f ( ) {", "const a : int = f ( { {", "fn f ( ) { while 1 {"} {
		checkGoesOn(t, []goesOn{
			{b, blockFirst}, {b + " let", "a b7"}, {b + " let x", "="}, {b + " let x =", exprFirst}, {b + " let x = 1", morePost + moreExpr + " ;"},
			{b + " let x = 1 ;", blockFirst}, {b + " x", "= ( ! }" + morePost + moreExpr + " ;"}, {b + " x =", exprFirst}, {b + " x = 1", morePost + moreExpr + " ;"},
			{b + " x = 1 ;", blockFirst}, {b + " while", exprFirst}, {b + " while 1", morePost + moreExpr + " {"}, {b + " while 1 {", blockFirst},
			{b + " while 1 { }", blockFirst}, {b + " print", exprFirst}, {b + " print 1", morePost + moreExpr + " ;"}, {b + " print 1 ;", blockFirst},
			{b + " 1", morePost + moreExpr + " ; }"}, {b + " 1 ;", blockFirst}, {b + " x . y", morePost + moreExpr + " ; }"}, {b + " ( x )", morePost + moreExpr + " ; }"},
			{b + " 1 < 2", morePost + moreSum + " && || ; }"}, {b + " { }", morePost + moreExpr + " ; }"}, {b + " if 1 { } else { }", morePost + moreExpr + " ; }"},
		})
	}
}

func TestTokensAtWhichNoItemBegins(t *testing.T) {
	for _, s := range everyToken() {
		text := " " + s + " "
		want := []int{1}
		if beginsItem(s) {
			want = []int{len(text)}
		}
		if items, errors := parser.Module(text); len(items) > 0 || !slices.Equal(errors, want) {
			t.Errorf("Module(%q): %d items, errors %v, expected %v", text, len(items), errors, want)
		}
	}
	checkErrors(t, []example{
		{"@1", ""}, {"@1 2 ; a b } { ( )", ""}, {"@; ; ;", ""}, {"@fun f() {}", ""}, {"@# use a;", "(Use 2 a)"}, {"@let x = 1; use a;", "(Use 11 a)"},
		{"use a; @1 2 use b;", "(Use 0 a) (Use 11 b)"}, {"use a;@; use b;", "(Use 0 a) (Use 8 b)"}, {"use a; @Self", "(Use 0 a)"},
		{"fn f() {} @; use a;", "(Fn 0 f (Params 4) (Args 5) (TypeOf 7 unit) (Block 7 (Unit 8))) (Use 12 a)"},
	})
}

func TestWhereReadingGoesOn(t *testing.T) {
	const left = "(Use 0 a)"
	checkErrors(t, []example{
		// At the wrong token itself, if it is one of the eight words.
		{"use a; const b: int = 1 @use c;", left + " (Use 24 c)"},
		{"use a; const b: int = 1 @pub use c;", left + " (PubUse 24 c)"},
		{"use a; const b: int = 1 @const c: int = 2;", left + " (Const 24 c (TypeOf 33 int) (Int 39 2))"},
		{"use a; const b: int = 1 @fn c() {}", left + " (Fn 24 c (Params 28) (Args 29) (TypeOf 31 unit) (Block 31 (Unit 32)))"},
		{"use a; const b: int = 1 @type c {}", left + " (Type 24 c (Params 31) (Args 32))"},
		{"use a; const b: int = 1 @trait c {}", left + " (Trait 24 c (Supers 32))"},
		{"use a; const b: int = 1 @impl c for d {}", left + " (Impl 24 c (Params 29) (TypeOf 35 d))"},
		{"use a; const b: int = 1 @macro c() = d;", left + " (Macro 24 c (Args 32) (Name 36 d))"},
		// At the next one of them behind it.
		{"use a; const b: int = @; x } use c;", left + " (Use 28 c)"},
		{"use a; const b: int = @; x } pub use c;", left + " (PubUse 28 c)"},
		{"use a; const b: int = @; x } const c: int = 2;", left + " (Const 28 c (TypeOf 37 int) (Int 43 2))"},
		{"use a; const b: int = @; x } fn c() {}", left + " (Fn 28 c (Params 32) (Args 33) (TypeOf 35 unit) (Block 35 (Unit 36)))"},
		{"use a; const b: int = @; x } type c {}", left + " (Type 28 c (Params 35) (Args 36))"},
		{"use a; const b: int = @; x } trait c {}", left + " (Trait 28 c (Supers 36))"},
		{"use a; const b: int = @; x } impl c for d {}", left + " (Impl 28 c (Params 33) (TypeOf 39 d))"},
		{"use a; const b: int = @; x } macro c() = d;", left + " (Macro 28 c (Args 36) (Name 40 d))"},
		// At no other word, and not at the first token of the item that is dropped.
		{"use @; for let while if else print new true false int bool unit Self a 1", ""},
		{"use @1 for let while if else print new true false int bool unit Self; use a;", "(Use 69 a)"},
		{"fn @1 fn f() {}", "(Fn 5 f (Params 9) (Args 10) (TypeOf 12 unit) (Block 12 (Unit 13)))"},
		{"fn @fn f() {}", "(Fn 3 f (Params 7) (Args 8) (TypeOf 10 unit) (Block 10 (Unit 11)))"},
		{"pub @fn f() {}", "(Fn 4 f (Params 8) (Args 9) (TypeOf 11 unit) (Block 11 (Unit 12)))"},
		{"pub @pub use a;", "(PubUse 4 a)"},
		{"pub @a use b;", "(Use 6 b)"},
		// At the end.
		{"use a; use b@", left}, {"use a; use b  // c\n@", left}, {"use a; use @1", left}, {"use a; fn f() { 1 @2 } ;", left},
	})
}

func TestErrorsOneAfterAnother(t *testing.T) {
	checkErrors(t, []example{
		{"const a: int = b < c @< d; use e;", "(Use 26 e)"},
		{"const a: int = b == c @== d; use e;", "(Use 28 e)"},
		{"const a: int = b < c @== d; use e;", "(Use 27 e)"},
		{"const a: int = b == c @< d; use e;", "(Use 27 e)"},
		{"use @use @use @", ""},
		{"use @use @use a;", "(Use 8 a)"},
		{"fn f( @fn g( @fn h( @", ""},
		{"use a; use @1; use b; use @2; use @3; use c;", "(Use 0 a) (Use 14 b) (Use 35 c)"},
		{"use @1; use a; fn f() { @* } use b; @2", "(Use 7 a) (Use 27 b)"},
		{"const a: int = (1@; const b: int = 2; const c: int = 3@) const d: int = 4;",
			"(Const 19 b (TypeOf 28 int) (Int 34 2)) (Const 55 d (TypeOf 64 int) (Int 70 4))"},
		// What is left of an impl or a trait is read as items.
		{"impl T for A { fn f() { @; } fn g() {} @}", "(Fn 28 g (Params 32) (Args 33) (TypeOf 35 unit) (Block 35 (Unit 36)))"},
		{"impl T for A { fn f@<U>() {} fn g<V>() {} @} use a;",
			"(Fn 28 g (Params 32 (Param 33 V)) (Args 36) (TypeOf 38 unit) (Block 38 (Unit 39))) (Use 43 a)"},
		{"trait T { fn f() @{} fn g() @; }", ""},
		{"trait T { fn f(x: Self) @1 fn g(x: @Self); type A { x: @Self } use a;", "(Use 60 a)"},
		{"impl T for @Self {} impl T for A { fn f(x: @Self) {} }", ""},
		{"const a: @Self = 1; macro m() = @Self; type A { x: B<@Self> }", ""},
	})
}
