package parser_test

import "testing"

func TestUses(t *testing.T) {
	checkItems(t, []example{
		{"use a;", "(Use 0 a)"},
		{" use  b_9 ;", "(Use 1 b_9)"},
		{"pub use a;", "(PubUse 0 a)"},
		{"pub\nuse\na\n;", "(PubUse 0 a)"},
		{"use a;use b;pub use c;", "(Use 0 a) (Use 6 b) (PubUse 12 c)"},
	})
}

func TestConsts(t *testing.T) {
	checkItems(t, []example{
		{"const a: int = 1 + 2;", "(Const 0 a (TypeOf 9 int) (Binary 15 + (Int 15 1) (Int 19 2)))"},
		{"const b: bool = true;", "(Const 0 b (TypeOf 9 bool) (Bool 16 true))"},
		{" const c:A<int>=(c);", "(Const 1 c (TypeOf 9 A (TypeOf 11 int)) (Name 17 c))"},
		{"const d: unit = {};", "(Const 0 d (TypeOf 9 unit) (Block 16 (Unit 17)))"},
	})
}

func TestFns(t *testing.T) {
	checkItems(t, []example{
		{"fn f() {}", "(Fn 0 f (Params 4) (Args 5) (TypeOf 7 unit) (Block 7 (Unit 8)))"},
		{"fn  f ( ) { }", "(Fn 0 f (Params 6) (Args 8) (TypeOf 10 unit) (Block 10 (Unit 12)))"},
		{"fn main() -> int { 7 }", "(Fn 0 main (Params 7) (Args 8) (TypeOf 13 int) (Block 17 (Int 19 7)))"},
		{"fn f<T>() {}", "(Fn 0 f (Params 4 (Param 5 T)) (Args 8) (TypeOf 10 unit) (Block 10 (Unit 11)))"},
		{"fn f(x: int) {}", "(Fn 0 f (Params 4) (Args 5 (Arg 5 x (TypeOf 8 int))) (TypeOf 13 unit) (Block 13 (Unit 14)))"},
		{"fn f< T: A, U, V: B >( x: T, y: bool ) -> P<T, U> { x }",
			"(Fn 0 f (Params 4 (Param 6 T (Name 9 A)) (Param 12 U) (Param 15 V (Name 18 B)))" +
				" (Args 23 (Arg 23 x (TypeOf 26 T)) (Arg 29 y (TypeOf 32 bool)))" +
				" (TypeOf 42 P (TypeOf 44 T) (TypeOf 47 U)) (Block 50 (Name 52 x)))"},
	})
}

func TestRecords(t *testing.T) {
	checkItems(t, []example{
		{"type A {}", "(Type 0 A (Params 7) (Args 8))"},
		{"type A{ }", "(Type 0 A (Params 6) (Args 8))"},
		{"type A { x: int }", "(Type 0 A (Params 7) (Args 9 (Arg 9 x (TypeOf 12 int))))"},
		{"type A<T, U: S> { x: T, y: A<U, T> }",
			"(Type 0 A (Params 6 (Param 7 T) (Param 10 U (Name 13 S)))" +
				" (Args 18 (Arg 18 x (TypeOf 21 T)) (Arg 24 y (TypeOf 27 A (TypeOf 29 U) (TypeOf 32 T)))))"},
	})
}

func TestTraits(t *testing.T) {
	checkItems(t, []example{
		{"trait T {}", "(Trait 0 T (Supers 8))"},
		{"trait T: A {}", "(Trait 0 T (Supers 9 (Name 9 A)))"},
		{"trait T :A+B + C{}", "(Trait 0 T (Supers 9 (Name 9 A) (Name 11 B) (Name 15 C)))"},
		{"trait T { fn f(); }", "(Trait 0 T (Supers 8) (Sig 10 f (Args 15) (TypeOf 16 unit)))"},
		{"trait T{fn f( ) ;}", "(Trait 0 T (Supers 7) (Sig 8 f (Args 14) (TypeOf 16 unit)))"},
		{"trait T { fn f(x: Self, y: int) -> bool; fn g() -> Self; }",
			"(Trait 0 T (Supers 8)" +
				" (Sig 10 f (Args 15 (Arg 15 x (TypeOf 18 Self)) (Arg 24 y (TypeOf 27 int))) (TypeOf 35 bool))" +
				" (Sig 41 g (Args 46) (TypeOf 51 Self)))"},
		{"trait T { fn f(x: A<Self, B<Self>>) -> A<Self>; }",
			"(Trait 0 T (Supers 8)" +
				" (Sig 10 f (Args 15 (Arg 15 x (TypeOf 18 A (TypeOf 20 Self) (TypeOf 26 B (TypeOf 28 Self)))))" +
				" (TypeOf 39 A (TypeOf 41 Self))))"},
	})
}

func TestImpls(t *testing.T) {
	checkItems(t, []example{
		{"impl T for A {}", "(Impl 0 T (Params 5) (TypeOf 11 A))"},
		{"impl T for int{}", "(Impl 0 T (Params 5) (TypeOf 11 int))"},
		{"impl<U> T for A<U> {}", "(Impl 0 T (Params 4 (Param 5 U)) (TypeOf 14 A (TypeOf 16 U)))"},
		{"impl < U: S, V > T for A {}", "(Impl 0 T (Params 5 (Param 7 U (Name 10 S)) (Param 13 V)) (TypeOf 23 A))"},
		{"impl T for A { fn f() {} }",
			"(Impl 0 T (Params 5) (TypeOf 11 A) (Fn 15 f (Params 19) (Args 20) (TypeOf 22 unit) (Block 22 (Unit 23))))"},
		{"impl T for A { fn f(x: A) -> int { 1 } fn g ( ) { } }",
			"(Impl 0 T (Params 5) (TypeOf 11 A)" +
				" (Fn 15 f (Params 19) (Args 20 (Arg 20 x (TypeOf 23 A))) (TypeOf 29 int) (Block 33 (Int 35 1)))" +
				" (Fn 39 g (Params 44) (Args 46) (TypeOf 48 unit) (Block 48 (Unit 50))))"},
	})
}

func TestMacros(t *testing.T) {
	checkItems(t, []example{
		{"macro m() = 1;", "(Macro 0 m (Args 8) (Int 12 1))"},
		{"macro m( x ) = x;", "(Macro 0 m (Args 9 (Name 9 x)) (Name 15 x))"},
		{"macro m(x, y)=x + y;", "(Macro 0 m (Args 8 (Name 8 x) (Name 11 y)) (Binary 14 + (Name 14 x) (Name 18 y)))"},
		{"macro m(x) = { let y = x; y };", "(Macro 0 m (Args 8 (Name 8 x)) (Block 13 (Let 15 y (Name 23 x)) (Name 26 y)))"},
	})
}

func TestItemsOneAfterAnother(t *testing.T) {
	checkItems(t, []example{
		{"", ""},
		{" \n// nothing", ""},
		{"use a;const b:int=1;fn c(){}type d{}trait e{}impl f for g{}macro h()=i;pub use j;",
			"(Use 0 a) (Const 6 b (TypeOf 14 int) (Int 18 1)) (Fn 20 c (Params 24) (Args 25) (TypeOf 26 unit) (Block 26 (Unit 27)))" +
				" (Type 28 d (Params 34) (Args 35)) (Trait 36 e (Supers 43)) (Impl 45 f (Params 50) (TypeOf 56 g))" +
				" (Macro 59 h (Args 67) (Name 69 i)) (PubUse 71 j)"},
		// Self ends with its sig: the next one begins without any trace of it.
		{"trait T { fn f(); } type A {}", "(Trait 0 T (Supers 8) (Sig 10 f (Args 15) (TypeOf 16 unit))) (Type 20 A (Params 27) (Args 28))"},
	})
}
