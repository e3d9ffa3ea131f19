package parser_test

import (
	"slices"
	"strings"
	"testing"

	"recompile/api"
	"recompile/parser"
)

// core is an expr or a type in which nothing has a greater level than the first that is behind its mark: that of the core, and more.
type core struct {
	text string
	more int
}

func exprCores() []core {
	return []core{
		{"@1", 0}, {"@x", 0}, {"@true", 0}, {"@f()", 0}, {"@m!()", 0}, {"@new A()", 0}, {"@{}", 0}, {"@{}.a", 0},
		{"@1 + 2 - 3 + 4", 0}, {"@1 * 2 / 3 % 4", 0}, {"@a.b.c.d", 0}, {"@a < b && c == d || e && f", 0}, {"@f() + m!().a * new A()", 0},
		{"(@1)", 1}, {"1 + (@2)", 1}, {"(@1) + (2)", 1}, {"(@a).b.c", 1}, {"((@1))", 2}, {"(1 + (@2) + 3)", 2},
		{"-@1", 1}, {"!@x", 1}, {"-@{}", 1}, {"-@a.b.c", 1}, {"-@1 + 2", 1}, {"1 * -@2 * 3", 1}, {"-!@1", 2}, {"-(@1)", 2}, {"(-@1)", 2}, {"-f(@1)", 2}, {"-{@1}", 2},
		{"f(@1)", 1}, {"f(@1, 2, 3)", 1}, {"f(1, (@2))", 2}, {"f(@f())", 1}, {"f(f(@1), 2)", 2}, {"f(@1 + 2)", 1},
		{"m!(@1)", 1}, {"m!(@1, 2)", 1}, {"m!(1, -@2)", 2}, {"new A(@1)", 1}, {"new A(@1, 2)", 1}, {"new A(1, -@2)", 2},
		{"if @1 {} else {}", 1}, {"if @{} {} else {}", 1}, {"if (@1) {} else {}", 2}, {"if 1 {@2} else {}", 2}, {"if 1 {} else {@2}", 2}, {"if 1 { print @2; } else {}", 2},
		{"{@1}", 1}, {"{@x}", 1}, {"{@x == 1}", 1}, {"{@x; }", 1}, {"{@{}}", 1}, {"{{@1}}", 2}, {"{@1; 2; 3}", 1}, {"{@{}; {}; 3}", 1},
		{"{ let x = @1; }", 1}, {"{ let x = @{}; 1 }", 1}, {"{ let x = {@1}; }", 2}, {"{ x = @1; }", 1}, {"{ x = (@1); }", 2}, {"{ print @1; }", 1}, {"{ print -@1; }", 2},
		{"{ while @1 {} }", 1}, {"{ while @{} {} }", 1}, {"{ while (@1) {} }", 2}, {"{ while 1 {@2} }", 2}, {"{ while 1 { while @2 {} } }", 2}, {"{ while 1 {} {@2} }", 2},
	}
}

func typeCores() []core {
	return []core{{"@int", 0}, {"@A", 0}, {"A<@int>", 1}, {"A<@B, C, D>", 1}, {"A<B, C<@D>>", 2}, {"A<B<C<@D>>, C>", 3}}
}

// shell stands around something, of a level that is greater by more.
type shell struct {
	before, after string
	more          int
}

func exprShells() []shell {
	return []shell{
		{"(", ")", 1}, {"1 + (", ") * 2", 1}, {"f(", ")", 1}, {"m!(", ", 1)", 1}, {"new A(", ").a", 1},
		{"if ", " {} else {}", 1}, {"{", "}", 1}, {"{ ", "; }", 1}, {"{ let x = ", "; }", 1}, {"{ x = ", "; }", 1}, {"{ while ", " {} }", 1}, {"{ print ", "; }", 1},
		{"if 1 {", "} else {}", 2}, {"if 1 {} else { x = ", "; }", 2}, {"{ while 1 {", "} }", 2}, {"f(m!(", "))", 2}, {"-(", ")", 2}, {"!(", ")", 2},
	}
}

func typeShells() []shell {
	return []shell{{"A<", ">", 1}, {"A<", ", B, C>", 1}, {"A<B<", ">>", 2}}
}

// operandCores are exprs that can stand behind a sign.
func operandCores() []core {
	return []core{
		{"@1", 0}, {"@x", 0}, {"@f()", 0}, {"@{}", 0}, {"@a.b.c", 0}, {"-@1", 1}, {"!@x", 1}, {"(@1)", 1}, {"-(@1)", 2}, {"f(@1)", 1}, {"m!(@1, 2)", 1}, {"new A(@1).b", 1},
		{"{@1}", 1}, {"{ let x = @1; }", 1}, {"{ while 1 {@2} }", 2}, {"if @1 {} else {}", 1}, {"if 1 {} else {@2}", 2},
	}
}

// nested returns a core in shells of one kind, so that nothing has a greater level than what is behind the mark: most, or less by one.
func nested(s shell, c core, most int) string {
	n := (most - 1 - c.more) / s.more
	return strings.Repeat(s.before, n) + c.text + strings.Repeat(s.after, n)
}

// level returns that of what is behind the mark in nested.
func level(s shell, c core, most int) int { return most - (most-1-c.more)%s.more }

// checkLevels tests what Expr or Type reads at levels about MaxDepth.
func checkLevels(t *testing.T, read func(string) (api.Tree, bool), s shell, c core) {
	t.Helper()
	for most := api.MaxDepth - 1; most <= api.MaxDepth+3; most++ {
		text, _ := unmark(nested(s, c, most))
		want := level(s, c, most) <= api.MaxDepth
		if got, ok := read(text); ok != want || !ok && !sameTree(got, api.Tree{}) {
			t.Errorf("%q, of the level %d, is read: %v", text, level(s, c, most), ok)
		}
	}
}

// checkItemLevels tests an item with a core whose shells begin at the level more, and an item behind it.
func checkItemLevels(t *testing.T, item, s shell, c core) {
	t.Helper()
	for most := api.MaxDepth - 1; most <= api.MaxDepth+1; most++ {
		text, want := unmark(item.before + nested(s, c, most-item.more+1) + item.after + " use z;")
		left := 1
		if level(s, c, most-item.more+1)+item.more-1 <= api.MaxDepth {
			left, want = 2, nil
		}
		items, errors := parser.Module(text)
		if len(items) != left || items[left-1].Text != "z" || !slices.Equal(errors, want) {
			t.Errorf("Module(%q): %d items, errors %v, expected %d and %v", text, len(items), errors, left, want)
		}
	}
}

func TestLevelsOfExprs(t *testing.T) {
	for _, s := range exprShells() {
		for _, c := range exprCores() {
			checkLevels(t, parser.Expr, s, c)
			if s.more > 1 {
				continue
			}
			for _, item := range []shell{
				{"const a: int = ", ";", 1}, {"macro m(x) = 1 + ", ";", 1}, {"fn f(x: int) -> int {", "}", 2}, {"fn f() { let x = ", "; }", 2}, {"fn f() { x = ", "; }", 2},
				{"fn f() { print ", "; }", 2}, {"fn f() { 1; ", "; 2 }", 2}, {"fn f() { while ", " {} }", 2}, {"fn f() { while 1 {", "} }", 3},
				{"impl T for A { fn f() {} fn g() {", "} }", 2}, {"const a: int = f(1, if 2 {3} else {", "});", 4},
			} {
				checkItemLevels(t, item, s, c)
			}
		}
	}
}

func TestLevelsOfOperands(t *testing.T) {
	for _, s := range []shell{{"-", "", 1}, {"!", "", 1}, {"- ", "", 1}, {"!-", "", 2}} {
		for _, c := range operandCores() {
			checkLevels(t, parser.Expr, s, c)
			if s.more == 1 {
				checkItemLevels(t, shell{"const a: int = 1 + ", " * 2;", 1}, s, c)
				checkItemLevels(t, shell{"fn f() { 1; ", " }", 2}, s, c)
			}
		}
	}
}

func TestLevelsOfTypes(t *testing.T) {
	for _, s := range typeShells() {
		for _, c := range typeCores() {
			checkLevels(t, parser.Type, s, c)
			if s.more > 1 {
				continue
			}
			for _, item := range []shell{
				{"const a: ", " = 1;", 1}, {"fn f(x: ", ") {}", 1}, {"fn f(x: int, y: ", ") {}", 1}, {"fn f() -> ", " {}", 1}, {"type A { x: ", " }", 1},
				{"trait T { fn f(x: ", "); }", 1}, {"trait T { fn f() -> ", "; }", 1}, {"impl T for ", " {}", 1},
				{"impl T for A { fn f(x: ", ") {} }", 1}, {"impl T for A { fn f() -> ", " {} }", 1},
			} {
				checkItemLevels(t, item, s, c)
			}
		}
		checkItemLevels(t, shell{"trait T { fn f(x: ", ") -> Self; }", 1}, s, core{"@Self", 0})
	}
}

func TestWhatIsTooDeepIsNeverRead(t *testing.T) {
	deep := strings.Repeat("(", api.MaxDepth)
	for _, rest := range []string{"@1", "@", "@)", "@;", "@{", "@x = 1", "@- - -", "@Self"} {
		checkErrors(t, []example{{"const a: int = " + deep + rest, ""}})
	}
	signs := strings.Repeat("-", api.MaxDepth)
	blocks := strings.Repeat("{", api.MaxDepth)
	types := strings.Repeat("A<", api.MaxDepth)
	checkErrors(t, []example{
		{"const a: int = " + signs + "@1;", ""}, {"const a: int = " + signs + "@;", ""}, {"const a: int = " + signs + "@-1;", ""},
		{"const a: int = " + blocks + "@1", ""}, {"const a: int = " + blocks + "@x }", ""}, {"const a: int = " + blocks + " x = @1; }", ""},
		{"const a: int = " + blocks + " let x = @1; }", ""}, {"const a: int = " + blocks + " let @1", ""}, {"const a: int = " + blocks + " while @1 {}", ""},
		{"const a: int = " + blocks + " print @1", ""}, {"const a: int = " + blocks + "@{}", ""}, {"const a: int = " + blocks + "@;", ""},
		{"const a: " + types + "@int", ""}, {"const a: " + types + "@>", ""}, {"fn f() " + blocks + "@1", ""}, {"fn f() -> " + types + "@A", ""},
	})
	open := blocks + strings.Repeat("}", api.MaxDepth)
	if items, errors := parser.Module("fn f() " + open + " fn g() " + open); len(items) != 2 || len(errors) > 0 {
		t.Errorf("blocks of the level MaxDepth: %d items, errors %v", len(items), errors)
	}
}

// inParens returns 1 in n parentheses.
func inParens(n int) string { return strings.Repeat("(", n) + "1" + strings.Repeat(")", n) }

func TestLevelsBeginAnew(t *testing.T) {
	right := "const a: int = " + inParens(api.MaxDepth-1) + "; "
	wrong := "const b: int = " + strings.Repeat("(", api.MaxDepth-1) + "1 1; "
	if items, errors := parser.Module(strings.Repeat(right+wrong, 20)); len(items) != 20 || len(errors) != 20 {
		t.Errorf("items one after another: %d, and %d errors", len(items), len(errors))
	}
	deep := inParens(api.MaxDepth - 2)
	stmts := deep + "; let x = " + deep + "; x = " + deep + "; print " + deep + "; while " + deep + " {} "
	if items, errors := parser.Module("fn f() { " + strings.Repeat(stmts, 20) + deep + " }"); len(items) != 1 || len(errors) > 0 {
		t.Errorf("statements one after another: %d items, errors %v", len(items), errors)
	}
	list := strings.Repeat(deep+", ", 20) + deep
	for _, text := range []string{"f(" + list + ")", "m!(" + list + ")", "new A(" + list + ")", strings.Repeat("("+deep+") + ", 20) + "1", strings.Repeat("-"+deep+" * ", 20) + "1"} {
		if _, ok := parser.Expr(text); !ok {
			t.Errorf("%q is no expr", text)
		}
	}
}
