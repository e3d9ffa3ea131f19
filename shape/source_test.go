package shape_test

import (
	"slices"
	"strings"
	"testing"

	"recompile/api"
	"recompile/parser"
	"recompile/shape"
)

func TestSourceOfItems(t *testing.T) {
	checkTexts(t, items()...)
}

func TestSourceOfExprs(t *testing.T) {
	checkTexts(t, exprs()...)
}

func TestSourceOfTypes(t *testing.T) {
	for _, text := range append(typesOf(), "Use", "_") {
		checkSource(t, mustType(text), text)
	}
}

func TestSourceOfTreesThatAreBuilt(t *testing.T) {
	a, b, c := tree(api.KName, "a", 0), tree(api.KName, "b", 0), tree(api.KName, "c", 0)
	binary := func(sign string, l, r api.Tree) api.Tree { return tree(api.KBinary, sign, 0, l, r) }
	unit := tree(api.KUnit, "", 0)
	for _, e := range []example{
		{a, "a"},
		{tree(api.KInt, "12", 0), "12"},
		{binary("-", binary("-", a, b), c), "a-b-c"},
		{binary("-", a, binary("-", b, c)), "a-(b-c)"},
		{binary("<", binary("<", a, b), c), "(a<b)<c"},
		{binary("==", a, binary("==", b, c)), "a==(b==c)"},
		{binary("*", binary("+", a, b), tree(api.KUnary, "-", 0, c)), "(a+b)*-c"},
		{tree(api.KUnary, "-", 0, tree(api.KUnary, "-", 0, a)), "--a"},
		{tree(api.KUnary, "!", 0, tree(api.KDot, "x", 0, a)), "!a.x"},
		{tree(api.KDot, "x", 0, tree(api.KUnary, "!", 0, a)), "(!a).x"},
		{tree(api.KBlock, "", 0, tree(api.KLet, "x", 0, a), tree(api.KPrint, "", 0, b), unit), "{let x=a;print b;}"},
		{tree(api.KIf, "", 0, a, tree(api.KBlock, "", 0, unit), tree(api.KBlock, "", 0, b)), "if a{}else{b}"},
		{tree(api.KUse, "m", 0), "use m;"},
		{tree(api.KFn, "f", 0, tree(api.KParams, "", 0), tree(api.KArgs, "", 0), tree(api.KTypeOf, "unit", 0), tree(api.KBlock, "", 0, unit)), "fn f(){}"},
		{tree(api.KTypeOf, "A", 0, tree(api.KTypeOf, "int", 0)), "A<int>"},
	} {
		checkSource(t, e.tree, e.text)
	}
}

func TestSourceOfLooseTexts(t *testing.T) {
	for loose, want := range map[string]string{
		"  ( ( a ) ) // a":                "a",
		"(1)+((2)*(3))":                   "1+2*3",
		"((a+b)+c)":                       "a+b+c",
		"(a)||((b)&&(c))":                 "a||b&&c",
		"f((1),(2+3))":                    "f(1,2+3)",
		"-(-(a))":                         "--a",
		"((a).b).c":                       "a.b.c",
		"if(a){(b)}else{((c));}":          "if a{b}else{c;}",
		"{let x=(1);print(x);while(x){}}": "{let x=1;print x;while x{}}",
		"fn f ( ) -> unit { }":            "fn f(){}",
		"trait T { fn m ( ) -> unit ; }":  "trait T{fn m();}",
		"impl < A > T for B < A > { fn m ( ) -> unit { } }": "impl<A>T for B<A>{fn m(){}}",
		"pub\n//\nuse\ta\r;":                                  "pub use a;",
		"new\nT\n(\n)":                                        "new T()",
		"macro m ( a , b ) = ( a + b ) ;":                     "macro m(a,b)=a+b;",
		"fn f(x: int, y: A < B < C > >) -> A < int > { x ; }": "fn f(x:int,y:A<B<C>>)->A<int>{x;}",
	} {
		checkSource(t, must(loose), want)
	}
}

// TestBlanks tests every byte of names and numbers where one is needed, on both of its sides.
func TestBlanks(t *testing.T) {
	const bytes = "abcdefghijklmnopqrstuvwxyzABCDEFGHIJKLMNOPQRSTUVWXYZ_0123456789"
	for i := range len(bytes) {
		b := bytes[i : i+1]
		checkTexts(t, "{print "+b+";}", "{print x"+b+";}", "impl x"+b+" for y{}", "if "+b+"{}else{}", "{while "+b+"{}}")
		if b < "0" || b > "9" {
			checkTexts(t, "use "+b+";", "new "+b+"()", "impl "+b+" for "+b+"{}", "{let "+b+"=1;}", "fn "+b+"(){}", "type "+b+"{}", "trait "+b+"{}", "macro "+b+"()=1;", "const "+b+":int=1;")
		}
	}
	for _, p := range places("{print @;}", "if @{}else{}", "{while @{}}") {
		for _, e := range exprs() {
			checkSource(t, p.of(must(e)), tight(p.with(e, must(e))))
		}
	}
}

func TestSourceInEveryPlace(t *testing.T) {
	for _, p := range slices.Concat(exprPlaces(), exprItems()) {
		for _, e := range exprs() {
			checkSource(t, p.of(must(e)), tight(p.with(e, must(e))))
		}
	}
}

// TestSourceInTwoPlaces tests each sign on each side of each other one, and each expr that has an expr in each other one.
func TestSourceInTwoPlaces(t *testing.T) {
	t.Parallel()
	for _, p := range exprPlaces() {
		for _, q := range slices.Concat(exprPlaces(), exprItems()) {
			for _, e := range []string{"a", "-a", "a||b", "a&&b", "a<b", "a+b", "a%b", "if a{}else{}"} {
				in := must(e)
				text := p.with(e, in)
				in = p.of(in)
				checkSource(t, q.of(in), tight(q.with(text, in)))
			}
		}
	}
}

// TestThreeSigns tests each three signs in each order: parentheses stand only where the tree would be another one without them.
func TestThreeSigns(t *testing.T) {
	a := tree(api.KName, "a", 0)
	binary := func(sign string, l, r api.Tree) api.Tree { return tree(api.KBinary, sign, 0, l, r) }
	for _, s := range signs() {
		for _, q := range signs() {
			for _, r := range signs() {
				for _, x := range []api.Tree{
					binary(s, binary(q, binary(r, a, a), a), a), binary(s, binary(q, a, binary(r, a, a)), a), binary(s, binary(q, a, a), binary(r, a, a)),
					binary(s, a, binary(q, binary(r, a, a), a)), binary(s, a, binary(q, a, binary(r, a, a))),
				} {
					checkShortest(t, x)
				}
			}
		}
	}
}

// checkShortest tests that the Source of a tree is one, and none any more if a blank or two parentheses are left out.
func checkShortest(t *testing.T, x api.Tree) {
	t.Helper()
	text := shape.Source(x)
	if !readsAs(text, x) {
		t.Errorf("%q is not read as %s", text, shown(x))
	}
	if text != tight(text) {
		t.Errorf("%q has too many blanks", text)
	}
	var open []int
	for i := range len(text) {
		switch text[i] {
		case '(':
			open = append(open, i)
		case ')':
			from := open[len(open)-1]
			open = open[:len(open)-1]
			if less := text[:from] + " " + text[from+1:i] + " " + text[i+1:]; readsAs(less, x) {
				t.Errorf("%q has too many parentheses", text)
			}
		}
	}
}

func TestSourceOfTypesInEveryPlace(t *testing.T) {
	for _, p := range slices.Concat(typePlaces(), sigPlaces()) {
		for _, text := range typesOf() {
			want := p.with(text, mustType(text))
			if text == "unit" {
				want = strings.ReplaceAll(want, "->unit", "")
			}
			checkSource(t, p.of(mustType(text)), tight(want))
		}
	}
	self := tree(api.KTypeOf, "Self", 0)
	for _, p := range sigPlaces() {
		checkSource(t, p.of(self), tight(p.with("Self", self)))
		checkSource(t, p.of(tree(api.KTypeOf, "A", 0, self)), tight(p.with("A<Self>", tree(api.KTypeOf, "A", 0, self))))
	}
	for _, p := range typePlaces() {
		checkSource(t, p.of(self), "")
		checkSource(t, p.of(tree(api.KTypeOf, "A", 0, self)), "")
	}
}

// stmts are statements of all kinds, and values.
func stmts() []string {
	return []string{"let x=1;", "x=1;", "while a{}", "while a{x;}", "print 1;", "x;", "-x;", "(x.y)-1;", "{};", "{x};", "if a{}else{};", "if a{}else{}-1;", "f();", "m!();"}
}

func TestSourceOfBlocks(t *testing.T) {
	t.Parallel()
	for _, p := range places("{@}", "if a{@}else{}", "if a{}else{@}", "{while a{@}}", "fn f(){@}", "impl T for A{fn f(){@}}", "const c:int={@};") {
		for _, value := range []string{"", "1", "-1", "(1-a).x", "{}", "if a{}else{}", "x", "new T()"} {
			for _, s := range append(stmts(), "") {
				for _, r := range append(stmts(), "") {
					text := strings.ReplaceAll(p.text, "@", s+r+value)
					x := must(text)
					checkSource(t, x, tight(strings.ReplaceAll(text, "(x.y)-1", "x.y-1")))
				}
			}
		}
	}
}

func TestSourceOfManyStatements(t *testing.T) {
	d := &dice{5}
	for range 300 {
		text := "{"
		for range d.roll(20) {
			text += one(d, stmts()...)
		}
		text += one(d, "", "a", "-a") + "}"
		checkSource(t, must(text), tight(strings.ReplaceAll(text, "(x.y)-1", "x.y-1")))
	}
}

// TestSourceIsNoLongerThanTheText tests all short texts of some tokens behind some beginnings.
func TestSourceIsNoLongerThanTheText(t *testing.T) {
	t.Parallel()
	found := 0
	for _, begin := range []string{"", "f(", "{", "a.b-", "if a", "fn f("} {
		texts := []string{begin}
		for range 4 {
			var longer []string
			for _, s := range texts {
				for _, x := range strings.Fields("a 1 ( ) + < * - ! . , { } ; = ->unit else") {
					longer = append(longer, s+x)
				}
			}
			texts = longer
			for _, s := range texts {
				if x, ok := read(s); ok {
					found++
					if got := shape.Source(x); !readsAs(got, x) || len(got) > len(s) {
						t.Errorf("Source of the tree of %q is %q", s, got)
					}
				}
			}
		}
	}
	if found < 1000 {
		t.Errorf("only %d texts are read", found)
	}
}

// TestTheParserReadsTheSourceOfAnItem tests the items of texts of several ones.
func TestTheParserReadsTheSourceOfAnItem(t *testing.T) {
	l := items()
	for _, p := range exprItems() {
		for _, e := range exprs() {
			l = append(l, p.with(e, must(e)))
		}
	}
	for some := range slices.Chunk(l, 50) {
		read, errors := parser.Module(strings.Join(some, "\n// x\n"))
		if len(read) != len(some) || len(errors) > 0 {
			t.Fatalf("%d items, errors %v", len(read), errors)
		}
		for _, x := range read {
			got, errors := parser.Module(shape.Source(x))
			if len(errors) > 0 || len(got) != 1 || !alike(got[0], x) {
				t.Errorf("%s became %v, errors %v", shown(x), got, errors)
			}
		}
	}
}
