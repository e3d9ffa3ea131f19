package parser_test

import (
	"strings"
	"testing"

	"recompile/api"
	"recompile/parser"
)

// filled returns a text with blanks at its end, of n bytes.
func filled(text string, n int) string { return text + strings.Repeat(" ", n-len(text)) }

// many returns as many parts as there is room for in n bytes with what is around them, and blanks.
func many(before, part, after string, n int) string {
	return filled(before+strings.Repeat(part, (n-len(before)-len(after))/len(part))+after, n)
}

func TestModulesOfMaxText(t *testing.T) {
	for _, c := range []struct{ before, part, after string }{
		{"use a;", " ", ""}, {"use a;", "/", "\n"}, {"", "use a;", ""}, {"const a: int = 1", "+1", ";"}, {"fn f() {", "1;", "}"}, {"fn f() {", "x=1;", "}"},
		{"fn f(x: int", ",x:int", ") {}"}, {"type A {x: int", ",x:A<int>", "}"}, {"trait T: A", "+A", " {}"}, {"trait T {", "fn f();", "}"}, {"impl T for A {", "fn f(){}", "}"},
		{"macro m(x", ",x", ") = 1;"}, {"const a: A<int", ",int", "> = 1;"}, {"const a: int = f(1", ",1", ");"}, {"fn f<T", ",T", ">() {}"},
	} {
		items, errors := parser.Module(many(c.before, c.part, c.after, api.MaxText))
		if len(items) == 0 || len(errors) > 0 {
			t.Errorf("MaxText bytes of %q: %d items, errors %v", c, len(items), errors)
		}
		items, errors = parser.Module(many(c.before, c.part, c.after, api.MaxText) + " ")
		if len(items) != 0 || len(errors) != 1 || errors[0] != 0 {
			t.Errorf("one byte more of %q: %d items, errors %v", c, len(items), errors)
		}
	}
}

func TestOnlyTheLengthCounts(t *testing.T) {
	for n, want := range map[int]int{api.MaxText: 0, api.MaxText + 1: 1, api.MaxText + 2: 1, 10 * api.MaxText: 1} {
		for _, c := range []string{" ", "// x"} {
			if items, errors := parser.Module(filled(c, n)); len(items) != 0 || len(errors) != want || want > 0 && errors[0] != 0 {
				t.Errorf("%d bytes that begin with %q: %d items, errors %v", n, c, len(items), errors)
			}
		}
	}
	items, errors := parser.Module(strings.Repeat(";", api.MaxText))
	if len(items) != 0 || len(errors) != 1 || errors[0] != 0 {
		t.Errorf("MaxText marks: %d items, errors %v", len(items), errors)
	}
	items, errors = parser.Module(strings.Repeat("pub ", api.MaxText/4))
	if len(items) != 0 || len(errors) != api.MaxText/4 || errors[0] != 4 || errors[len(errors)-1] != api.MaxText {
		t.Errorf("MaxText bytes of dropped items: %d items, %d errors", len(items), len(errors))
	}
}

func TestExprsAndTypesOfMaxText(t *testing.T) {
	for _, c := range []struct{ before, part, after string }{
		{"1", "", ""}, {"1", "+1", ""}, {"1", "*-1", ""}, {"a", ".a", ""}, {"{", "1;", "}"}, {"f(1", ",1", ")"}, {"a", "&&a", ""}, {"a", "||a<b", ""},
	} {
		if _, ok := parser.Expr(many(c.before, c.part+" ", c.after, api.MaxText)); !ok {
			t.Errorf("MaxText bytes of %q are no expr", c)
		}
		if got, ok := parser.Expr(many(c.before, c.part+" ", c.after, api.MaxText) + " "); ok || !sameTree(got, api.Tree{}) {
			t.Errorf("one byte more of %q is an expr", c)
		}
	}
	for _, c := range []struct{ before, part, after string }{{"int", " ", ""}, {"A", " ", ""}, {"A<int", ",int", ">"}} {
		if _, ok := parser.Type(many(c.before, c.part, c.after, api.MaxText)); !ok {
			t.Errorf("MaxText bytes of %q are no type", c)
		}
		if got, ok := parser.Type(many(c.before, c.part, c.after, api.MaxText) + " "); ok || !sameTree(got, api.Tree{}) {
			t.Errorf("one byte more of %q is a type", c)
		}
	}
}

func TestLongSumsProductsAndDots(t *testing.T) {
	for _, c := range []struct {
		kind       int
		text, part string
	}{
		{api.KBinary, "+", "+1"}, {api.KBinary, "-", "-1"}, {api.KBinary, "*", "*1"}, {api.KBinary, "/", "/1"}, {api.KBinary, "%", "%1"},
		{api.KBinary, "||", "||1"}, {api.KBinary, "&&", "&&1"}, {api.KDot, "a", ".a"},
	} {
		n := (api.MaxText - 1) / len(c.part)
		tree, ok := parser.Expr("1" + strings.Repeat(c.part, n))
		if !ok {
			t.Errorf("%d times %q is no expr", n, c.part)
		}
		for k := n; k > 0; k-- {
			if tree.Kind != c.kind || tree.Text != c.text || tree.At != 0 || len(tree.Kids) == 0 {
				t.Fatalf("%d times %q: node %d is %d %q at %d", n, c.part, k, tree.Kind, tree.Text, tree.At)
			}
			if right := (api.Tree{Kind: api.KInt, Text: "1", At: k * len(c.part)}); c.kind == api.KBinary && !sameTree(tree.Kids[1], right) {
				t.Fatalf("%d times %q: right of node %d is %s", n, c.part, k, shown(tree.Kids[1]))
			}
			tree = tree.Kids[0]
		}
		if !sameTree(tree, api.Tree{Kind: api.KInt, Text: "1"}) {
			t.Errorf("%d times %q: at the beginning %s", n, c.part, shown(tree))
		}
	}
}
