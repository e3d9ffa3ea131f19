package parser_test

import (
	"slices"
	"strings"
	"testing"

	"recompile/api"
	"recompile/lexer"
	"recompile/parser"
)

// someItems returns a text, and the items that it has.
func someItems(d *dice) (string, []api.Tree) {
	w := &written{dice: d}
	var items []api.Tree
	for range 1 + d.roll(4) {
		items = append(items, w.item())
	}
	tokens := lexer.Tokens(string(w.text))
	for i := range items {
		items[i] = fixed(items[i], tokens)
	}
	return string(w.text), items
}

func TestWrittenItems(t *testing.T) {
	d := &dice{7}
	for range 4000 {
		text, want := someItems(d)
		if got, errors := parser.Module(text); len(errors) > 0 || !slices.EqualFunc(got, want, sameTree) {
			t.Fatalf("Module(%q)\n got %s, errors %v\nwant %s", text, allShown(got), errors, allShown(want))
		}
	}
}

func TestWrittenExprsAndTypes(t *testing.T) {
	d := &dice{8}
	for range 4000 {
		w := &written{dice: d}
		want := w.below(w.expr)
		want = fixed(want, lexer.Tokens(string(w.text)))
		if got, ok := parser.Expr(string(w.text)); !ok || !sameTree(got, want) {
			t.Fatalf("Expr(%q)\n got %s, %v\nwant %s", w.text, shown(got), ok, shown(want))
		}
		w = &written{dice: d}
		want = w.below(w.typeOf)
		if got, ok := parser.Type(string(w.text)); !ok || !sameTree(got, want) {
			t.Fatalf("Type(%q)\n got %s, %v\nwant %s", w.text, shown(got), ok, shown(want))
		}
	}
}

// source is a text from which trees were read.
type source string

// tokens returns the tokens of a tree, without parentheses.
func (s source) tokens(t api.Tree) []string { return strings.Fields(s.of(t)) }

// list returns the tokens of trees, with a sign between them.
func (s source) list(sign string, l []api.Tree) string {
	var out []string
	for _, t := range l {
		out = append(out, s.of(t))
	}
	return strings.Join(out, " "+sign+" ")
}

func (s source) of(t api.Tree) string {
	if t.Kind < api.KInt {
		return s.ofItem(t)
	}
	switch t.Kind {
	case api.KLet, api.KAssign, api.KWhile, api.KPrint, api.KDo:
		return s.ofStmt(t)
	}
	return s.ofExpr(t)
}

func (s source) ofItem(t api.Tree) string {
	kid := func(k int) string { return " " + s.of(t.Kids[k]) + " " }
	switch t.Kind {
	case api.KUse:
		return "use " + t.Text + " ;"
	case api.KPubUse:
		return "pub use " + t.Text + " ;"
	case api.KConst:
		return "const " + t.Text + " :" + kid(0) + "=" + kid(1) + ";"
	case api.KFn:
		return "fn " + t.Text + kid(0) + kid(1) + s.result(t.Kids[2]) + kid(3)
	case api.KSig:
		return "fn " + t.Text + kid(0) + s.result(t.Kids[1]) + " ;"
	case api.KType:
		return "type " + t.Text + kid(0) + "{" + kid(1) + "}"
	case api.KTrait:
		return "trait " + t.Text + kid(0) + "{ " + s.list("", t.Kids[1:]) + " }"
	case api.KImpl:
		return "impl" + kid(0) + t.Text + " for" + kid(1) + "{ " + s.list("", t.Kids[2:]) + " }"
	case api.KMacro:
		return "macro " + t.Text + kid(0) + "=" + kid(1) + ";"
	case api.KArgs:
		return s.list(",", t.Kids)
	case api.KParam, api.KArg:
		return t.Text + signBefore(" : ", s.list("", t.Kids))
	case api.KSupers:
		return signBefore(": ", s.list("+", t.Kids))
	}
	if len(t.Kids) == 0 {
		return t.Text
	}
	return t.Text + " < " + s.list(",", t.Kids) + " >"
}

func (s source) ofStmt(t api.Tree) string {
	kid := func(k int) string { return " " + s.of(t.Kids[k]) + " " }
	switch t.Kind {
	case api.KLet:
		return "let " + t.Text + " =" + kid(0) + ";"
	case api.KAssign:
		return t.Text + " =" + kid(0) + ";"
	case api.KWhile:
		return "while" + kid(0) + kid(1)
	case api.KPrint:
		return "print" + kid(0) + ";"
	}
	return kid(0) + ";"
}

func (s source) ofExpr(t api.Tree) string {
	kid := func(k int) string { return " " + s.of(t.Kids[k]) + " " }
	switch t.Kind {
	case api.KCall:
		return t.Text + " " + s.list(",", t.Kids)
	case api.KExpand:
		return t.Text + " ! " + s.list(",", t.Kids)
	case api.KNew:
		return "new " + t.Text + " " + s.list(",", t.Kids)
	case api.KDot:
		return kid(0) + ". " + t.Text
	case api.KUnary:
		return t.Text + kid(0)
	case api.KBinary:
		return kid(0) + t.Text + kid(1)
	case api.KIf:
		return "if" + kid(0) + kid(1) + "else" + kid(2)
	case api.KBlock:
		return "{ " + s.list("", t.Kids) + " }"
	}
	return t.Text
}

// result returns what stands for the type of a result: nothing, if the text has none at its place.
func (s source) result(t api.Tree) string {
	if !strings.HasPrefix(string(s)[t.At:], t.Text) {
		return ""
	}
	return "-> " + s.of(t)
}

func signBefore(sign, s string) string {
	if s == "" {
		return ""
	}
	return sign + s
}

// plainTokens returns the tokens of a text without parentheses.
func plainTokens(text string) []string {
	l := strings.Fields(lexer.Join(lexer.Tokens(text)))
	return slices.DeleteFunc(l, func(s string) bool { return s == "(" || s == ")" })
}

func TestTextWithoutErrorsIsThatOfItsItems(t *testing.T) {
	d := &dice{9}
	for range 2000 {
		text, _ := someItems(d)
		items, errors := parser.Module(text)
		var got []string
		for _, x := range items {
			got = append(got, source(text).tokens(x)...)
		}
		if want := plainTokens(text); len(errors) > 0 || !slices.Equal(got, want) {
			t.Fatalf("%q has the tokens\n%v\nits items %v\nand the errors %v", text, want, got, errors)
		}
	}
}

// numbered returns a tree with the numbers of tokens for their places.
func numbered(t api.Tree, tokens []api.Token) api.Tree {
	out := api.Tree{Kind: t.Kind, Text: t.Text, At: number(t.At, tokens)}
	for _, k := range t.Kids {
		out.Kids = append(out.Kids, numbered(k, tokens))
	}
	return out
}

func number(at int, tokens []api.Token) int {
	return slices.IndexFunc(tokens, func(x api.Token) bool { return x.At == at })
}

// numberedModule returns what Module returns, with the numbers of tokens for their places.
func numberedModule(text string) (string, []int) {
	tokens := lexer.Tokens(text)
	items, errors := parser.Module(text)
	for i := range items {
		items[i] = numbered(items[i], tokens)
	}
	for i := range errors {
		errors[i] = number(errors[i], tokens)
	}
	return allShown(items), errors
}

// spaced returns tokens with other gaps between them.
func spaced(d *dice, tokens []string) string {
	var out strings.Builder
	for _, s := range tokens {
		out.WriteString(d.pick(" ", "\n\n", "\t \r", " // a { ( ;\n", " //\n ", "\n// use a;\n// fn\n"))
		out.WriteString(s)
	}
	out.WriteString(d.pick("", " ", "\n", " // a", "\n//"))
	return out.String()
}

func TestSpacesAndCommentsChangeOnlyPlaces(t *testing.T) {
	d := &dice{10}
	for range 1000 {
		text, _ := someItems(d)
		tokens := strings.Fields(lexer.Join(lexer.Tokens(text)))
		for _, l := range [][]string{tokens, changed(d, tokens, everyToken())} {
			plain := strings.Join(l, " ")
			wide := spaced(d, l)
			items, errors := numberedModule(plain)
			otherItems, otherErrors := numberedModule(wide)
			if items != otherItems || !slices.Equal(errors, otherErrors) {
				t.Fatalf("%q is\n%s, errors %v, but %q\n%s, errors %v", plain, items, errors, wide, otherItems, otherErrors)
			}
		}
	}
	for _, text := range []string{"1+ -a.b", "f(1,{let x=2;x})", "if a{1}else{2}"} {
		wide := spaced(d, strings.Fields(lexer.Join(lexer.Tokens(text))))
		got, ok := parser.Expr(text)
		other, otherOK := parser.Expr(wide)
		if !ok || !otherOK || !sameTree(numbered(got, lexer.Tokens(text)), numbered(other, lexer.Tokens(wide))) {
			t.Errorf("%q is not %q", text, wide)
		}
	}
	got, ok := parser.Type("A<int,B<C>>")
	other, otherOK := parser.Type(" A // B\n < int ,\nB\t<C> // >\n>")
	if !ok || !otherOK || !sameTree(numbered(got, lexer.Tokens("A<int,B<C>>")), numbered(other, lexer.Tokens(" A // B\n < int ,\nB\t<C> // >\n>"))) {
		t.Errorf("types: %s and %s", shown(got), shown(other))
	}
}

// spoil changes all that a tree has, and what its kids have room for.
func spoil(t *api.Tree) {
	for i := range t.Kids {
		spoil(&t.Kids[i])
	}
	clear(t.Kids[:cap(t.Kids)])
	*t = api.Tree{}
}

// grow adds nodes to all kids of a tree, whose memory no other node has.
func grow(t api.Tree) {
	for _, k := range t.Kids {
		grow(k)
	}
	_ = append(t.Kids, api.Tree{Kind: api.KBad, Text: "grown"}, api.Tree{Kind: api.KBad})
}

func TestResultsAreNew(t *testing.T) {
	d := &dice{11}
	for range 200 {
		text, want := someItems(d)
		first, _ := parser.Module(text + " use")
		_, errors := parser.Module(text + " use")
		second, again := parser.Module(text + " use")
		for i := range first {
			spoil(&first[i])
		}
		clear(first[:cap(first)])
		clear(errors[:cap(errors)])
		for _, x := range second {
			grow(x)
		}
		if !slices.EqualFunc(second, want, sameTree) || !slices.Equal(again, []int{len(text) + 4}) {
			t.Fatalf("%q became %s, errors %v", text, allShown(second), again)
		}
	}
}

func TestAnyBytes(t *testing.T) {
	d := &dice{12}
	for range 20000 {
		b := make([]byte, d.roll(40))
		for i := range b {
			b[i] = byte(d.roll(256))
		}
		text := string(b)
		items, errors := parser.Module(text)
		if text = strings.TrimSpace(text); len(items) == 0 && len(errors) == 0 && text != "" && !strings.HasPrefix(text, "//") {
			t.Errorf("%q has neither items nor errors", b)
		}
		parser.Expr(string(b))
		parser.Type(string(b))
	}
}
