package parser_test

import (
	"slices"
	"strings"
	"testing"

	"recompile/api"
	"recompile/lexer"
	"recompile/parser"
)

// moved returns a tree at another place.
func moved(t api.Tree, by int) api.Tree {
	out := api.Tree{Kind: t.Kind, Text: t.Text, At: t.At + by}
	for _, k := range t.Kids {
		out.Kids = append(out.Kids, moved(k, by))
	}
	return out
}

// checkText tests the errors of a text, where its items are, and that each of them is what it is alone.
func checkText(t *testing.T, rules map[string]part, text string) {
	t.Helper()
	items, errors := parser.Module(text)
	spans, want := expected(rules, text)
	if len(items) != len(spans) || !slices.Equal(errors, want) {
		t.Fatalf("Module(%q): %d items, errors %v, expected %d and %v", text, len(items), errors, len(spans), want)
	}
	for i, s := range spans {
		if alone, _ := parser.Module(text[s.from:s.to]); len(alone) != 1 || !sameTree(moved(alone[0], s.from), items[i]) {
			t.Fatalf("item %d of %q is not what it is alone: %s", i, text, shown(items[i]))
		}
	}
}

// beginnings calls a function with all texts of at most n tokens behind a beginning, but only with one token behind the last with which it goes on.
func beginnings(rules map[string]part, begin string, n int, tokens []string, use func(text string)) {
	l := lexer.Tokens(begin)
	r := startReading(rules, "item")
	for i := range l {
		if l[i].Kind == api.TokEnd {
			break
		}
		if !r.step(l[i:]) {
			use(begin)
			return
		}
	}
	use(begin)
	if n == 0 || r.done() {
		return
	}
	for _, s := range tokens {
		beginnings(rules, strings.TrimSpace(begin+" "+s), n-1, tokens, use)
	}
}

func TestAllBeginningsOfItems(t *testing.T) {
	rules := readGrammar()
	tokens := everyToken()
	for begin, n := range map[string]int{
		"": 4, "fn f": 3, "fn f ( ) {": 2, "trait T {": 4, "impl T for A {": 4, "type A {": 4, "macro m (": 4, "const a : A <": 3, "const a : int =": 2,
		"const a : int = { x": 2, "const a : int = if x {": 2,
	} {
		beginnings(rules, begin, n, tokens, func(text string) { checkText(t, rules, text) })
	}
}

func TestAllBeginningsAtMaxDepth(t *testing.T) {
	rules := readGrammar()
	tokens := everyToken()
	const above = api.MaxDepth - 1
	for _, begin := range []string{
		"const a : int =" + strings.Repeat(" (", above), "macro m ( ) =" + strings.Repeat(" -", above), "const a : int =" + strings.Repeat(" f (", above),
		"const a :" + strings.Repeat(" A <", above), "fn f ( ) " + strings.Repeat("{", above), "fn f ( ) " + strings.Repeat("{", above+1) + " x =",
		"fn f ( ) " + strings.Repeat("{", above) + " while 1", "const a : int =" + strings.Repeat(" (", above-1) + " if 1",
	} {
		beginnings(rules, begin, 2, tokens, func(text string) { checkText(t, rules, text) })
	}
}

func TestAllShortExprsAndTypes(t *testing.T) {
	rules := readGrammar()
	for rule, c := range map[string]struct {
		read   func(string) (api.Tree, bool)
		tokens string
	}{
		"wholeexpr": {parser.Expr, "a 1 true new ! - + * < == && || . , ( ) { } ; ="}, "wholetype": {parser.Type, "A int bool unit Self < > , 1 ( ) ;"},
	} {
		for _, text := range texts(strings.Fields(c.tokens), 4) {
			_, want := readBy(rules, rule, lexer.Tokens(text))
			if got, ok := c.read(text); ok != want || !ok && !sameTree(got, api.Tree{}) {
				t.Errorf("%q is one: %v, expected %v", text, ok, want)
			}
		}
	}
}

// texts returns all texts of at most n of the tokens.
func texts(tokens []string, n int) []string {
	out := []string{""}
	for from := 0; n > 0; n-- {
		to := len(out)
		for _, s := range out[from:to] {
			for _, k := range tokens {
				out = append(out, s+" "+k)
			}
		}
		from = to
	}
	return out
}

// changed returns tokens in which some are left out, replaced, added, or in another order.
func changed(d *dice, l []string, others []string) []string {
	l = slices.Clone(l)
	for range 1 + d.roll(3) {
		if len(l) < 2 {
			return l
		}
		i := d.roll(len(l) - 1)
		switch d.roll(5) {
		case 0:
			l = slices.Delete(l, i, i+1)
		case 1:
			l[i] = d.pick(others...)
		case 2:
			l = slices.Insert(l, i, d.pick(others...))
		case 3:
			l[i], l[i+1] = l[i+1], l[i]
		case 4:
			l = slices.Delete(l, i, i+1+d.roll(min(len(l)-i, 6)))
		}
	}
	return l
}

func TestChangedTexts(t *testing.T) {
	rules := readGrammar()
	d := &dice{1}
	for range 3000 {
		text, _ := someItems(d)
		tokens := strings.Fields(lexer.Join(lexer.Tokens(text)))
		for range 4 {
			checkText(t, rules, strings.Join(changed(d, tokens, everyToken()), " "))
		}
	}
}
