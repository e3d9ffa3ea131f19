package shape_test

import (
	"strings"
	"testing"

	"recompile/api"
	"recompile/parser"
	"recompile/shape"
)

// long returns a text of n bytes with as many parts as there is room for. The mark # in what is before them becomes a name, which is returned, too.
func long(before, part, after string, n int) (string, string) {
	n -= len(before) - 1 + len(after)
	count := (n - 1) / len(part)
	name := strings.Repeat("n", n-count*len(part))
	return strings.ReplaceAll(before, "#", name) + strings.Repeat(part, count) + after, name
}

// renamed returns a tree with another name.
func renamed(t api.Tree, old, now string) api.Tree {
	out := clone(t)
	for _, n := range all(&out) {
		if n.Text == old {
			n.Text = now
		}
	}
	return out
}

// checkLong tests the Source of a tree whose shortest text has MaxText bytes, and of one whose text has one more.
func checkLong(t *testing.T, x api.Tree, text, name string) {
	t.Helper()
	if got := shape.Source(x); got != text {
		t.Errorf("Source of the tree of %d bytes %.60q has %d bytes: %.60q", len(text), text, len(got), got)
	}
	if got := shape.Source(renamed(x, name, name+"n")); got != "" {
		t.Errorf("Source of the tree of %d bytes %.60q is %.60q", len(text)+1, text, got)
	}
	if got := shape.Source(renamed(x, name, name[1:]+"_")); len(got) != api.MaxText {
		t.Errorf("Source of a tree like that of %.60q has %d bytes", text, len(got))
	}
}

func TestSourceNearMaxText(t *testing.T) {
	t.Parallel()
	for _, c := range []struct{ before, part, after string }{
		{"#", "+1", ""}, {"#", "-1", ""}, {"#", "*1", ""}, {"#", "/1", ""}, {"#", "%1", ""}, {"#", "||1", ""}, {"#", "&&1", ""}, {"#", ".a", ""}, {"1+#", ".a", ""},
		{"#", "+-1", ""}, {"#", "*-1", ""}, {"#", "-(1<2)", ""}, {"#", "+1*2", ""}, {"#", "||a<b&&c==d", ""}, {"#", "+if a{}else{}", ""}, {"#", "-a.b", ""}, {"#", "-{}", ""},
		{"f(#", ",1", ")"}, {"m!(#", ",1", ")"}, {"new T(#", ",1", ")"}, {"f(1,#", ",(1<2)<3", ")"},
		{"{#;", "1;", "}"}, {"{#;", "f();", "}"}, {"{let #=1;", "x=1;", "}"}, {"{print #;", "print-1;", "}"}, {"{print #;", "print 1;", "}"}, {"{while #{}", "while a{}", "}"}, {"{#;", "let x={};", "1}"}, {"{#;", "if a{}else{};", "}"},
		{"use #;", " ", ""}, {"pub use #;", " ", ""}, {"const c:int=#", "+1", ";"}, {"const c:A<#", ",int", ">=1;"}, {"macro m(#", ",x", ")=1;"}, {"macro m()=#", ".a", ";"},
		{"fn f(#:int", ",x:int", "){}"}, {"fn f<#", ",T", ">(){}"}, {"fn f<#", ",T:S", ">()->int{1}"}, {"fn f(){#;", "1;", "}"}, {"fn f(x:A<#", ",B<int>", ">)->A<B>{}"},
		{"type T{#:int", ",x:A<int>", "}"}, {"type T<#", ",T", ">{}"}, {"trait T:#", "+A", "{}"}, {"trait T{fn #();", "fn f();", "}"}, {"trait T{fn #(x:Self);", "fn f()->Self;", "}"},
		{"impl T for #{", "fn f(){}", "}"}, {"impl<#", ",T", ">T for A{}"}, {"impl T for A<#", ",unit", ">{}"},
	} {
		text, name := long(c.before, c.part, c.after, api.MaxText)
		if c.part == " " {
			name += strings.Repeat("n", strings.Count(text, " ")-strings.Count(c.before, " "))
			text = strings.ReplaceAll(c.before, "#", name)
		}
		if len(text) != api.MaxText {
			t.Fatalf("%d bytes: %.60q", len(text), text)
		}
		checkLong(t, must(text), text, name)
	}
	text, name := long("A<#", ",int", ">", api.MaxText)
	checkLong(t, mustType(text), text, name)
	name = strings.Repeat("n", api.MaxText)
	checkLong(t, mustType(name), name, name)
	checkLong(t, must(name), name, name)
}

// TestSourceOfResultsNearMaxText tests that types of results that may be left out are left out where there is no room for them.
func TestSourceOfResultsNearMaxText(t *testing.T) {
	text, name := long("trait T{fn #();", "fn f();", "}", api.MaxText)
	items, errors := parser.Module(text)
	if len(items) != 1 || len(errors) > 0 {
		t.Fatalf("%d items, errors %v", len(items), errors)
	}
	checkLong(t, items[0], text, name)
	longer := strings.ReplaceAll(text, "()", "()->unit")
	if items, _ := parser.Module(longer); len(items) > 0 {
		t.Fatalf("%d bytes are read", len(longer))
	}
}

// TestSourceOfTreesFarBeyondMaxText tests trees of the right form that no text has.
func TestSourceOfTreesFarBeyondMaxText(t *testing.T) {
	t.Parallel()
	sum := must("1")
	for range 50000 {
		sum = tree(api.KBinary, "+", 0, sum, must("1"))
	}
	dots := must("a")
	for range 50000 {
		dots = tree(api.KDot, "b", 0, dots)
	}
	for _, x := range []api.Tree{
		sum, dots, wide(api.MaxText), tree(api.KName, strings.Repeat("a", api.MaxText+1), 0), tree(api.KName, strings.Repeat("a", 1<<24), 0),
		tree(api.KInt, strings.Repeat("1", api.MaxDigits+1), 0), tree(api.KUse, strings.Repeat("a", api.MaxText), 0),
	} {
		checkSource(t, x, "")
	}
	checkSource(t, tree(api.KInt, strings.Repeat("1", api.MaxDigits), 0), strings.Repeat("1", api.MaxDigits))
}
