package shape_test

import (
	"slices"
	"strings"
	"testing"

	"recompile/api"
	"recompile/lexer"
	"recompile/parser"
	"recompile/shape"
)

// read returns the expr, the type or the item that a text is.
func read(text string) (api.Tree, bool) {
	if t, ok := parser.Expr(text); ok {
		return t, true
	}
	if l, errors := parser.Module(text); len(l) == 1 && len(errors) == 0 {
		return l[0], true
	}
	return parser.Type(text)
}

// must returns what a text is.
func must(text string) api.Tree {
	t, ok := read(text)
	if !ok {
		panic(text)
	}
	return t
}

// readsAs reports whether the parser reads a text as a tree, but for its Ats.
func readsAs(text string, t api.Tree) bool {
	if x, ok := parser.Expr(text); ok && alike(x, t) {
		return true
	}
	if x, ok := parser.Type(text); ok && alike(x, t) {
		return true
	}
	l, errors := parser.Module(text)
	return len(l) == 1 && len(errors) == 0 && alike(l[0], t)
}

// tight returns the tokens of a text with blanks only where two of them would be others without one.
func tight(text string) string {
	out := ""
	last := ""
	for _, x := range lexer.Tokens(text) {
		if x.Kind == api.TokEnd {
			break
		}
		if pair := lexer.Join(lexer.Tokens(last + x.Text)); last != "" && pair != last+"\n"+x.Text+"\n" {
			out += " "
		}
		out += x.Text
		last = x.Text
	}
	return out
}

// moved returns a tree with other Ats.
func moved(t api.Tree, d *dice) api.Tree {
	out := clone(t)
	for _, n := range all(&out) {
		n.At = d.number()
	}
	return out
}

// checkSource tests the Source of a tree: it is a source, it is the text that is wanted, and it does not depend on Ats.
func checkSource(t *testing.T, x api.Tree, want string) {
	t.Helper()
	got := shape.Source(x)
	if got != want {
		t.Errorf("Source(%s)\n got %.200q\nwant %.200q", shown(x), got, want)
	}
	if want != "" && !readsAs(got, x) {
		t.Errorf("%.200q is not read as %s", got, shown(x))
	}
	if other := shape.Source(moved(x, &dice{uint64(len(want))})); other != got {
		t.Errorf("with other Ats %.200q became %.200q", got, other)
	}
}

// checkTexts tests texts that are as short as they can be.
func checkTexts(t *testing.T, l ...string) {
	t.Helper()
	for _, text := range l {
		checkSource(t, must(text), text)
	}
}

// put returns a tree in which an expr or a type stands in place of the names "hole".
func put(t, in api.Tree) api.Tree {
	if t.Text == "hole" {
		return in
	}
	out := tree(t.Kind, t.Text, t.At)
	for _, k := range t.Kids {
		out.Kids = append(out.Kids, put(k, in))
	}
	return out
}

// place is a text with a hole, and the tree of it.
type place struct {
	text string
	tree api.Tree
}

// places returns texts with the marks @ for holes.
func places(l ...string) []place {
	var out []place
	for _, s := range l {
		out = append(out, place{s, must(strings.ReplaceAll(s, "@", "hole"))})
	}
	return out
}

func (p place) of(t api.Tree) api.Tree { return put(p.tree, t) }

// with returns the text with another one in each hole: in parentheses only where the parser takes it for something else without.
func (p place) with(text string, t api.Tree) string {
	var short []string
	for _, s := range filled(p.text, text) {
		if readsAs(s, p.of(t)) && (short == nil || len(s) < len(short[0])) {
			short = []string{s}
		}
	}
	return short[0]
}

// filled returns a text with another one in each hole, with and without parentheses.
func filled(s, in string) []string {
	before, after, found := strings.Cut(s, "@")
	if !found {
		return []string{s}
	}
	var out []string
	for _, rest := range filled(after, in) {
		out = append(out, before+in+rest, before+"("+in+")"+rest)
	}
	return out
}

// signs are those that stand between two operands.
func signs() []string { return strings.Fields("|| && < == + - * / %") }

// exprPlaces are all places of the grammar in which an expr stands, in an expr.
func exprPlaces() []place {
	l := []string{
		"@.x", "-@", "!@", "f(@)", "f(@,1)", "f(1,@)", "f(1,@,2)", "m!(@)", "m!(@,1)", "m!(1,@)", "new T(@)", "new T(@,1)", "new T(1,@)",
		"if @{}else{}", "if a{@}else{}", "if a{}else{@}", "if a{@;}else{}", "if a{}else{@;}", "{@}", "{@;}", "{@;1}", "{1;@}", "{@;@}", "{1;@;}",
		"{let x=@;}", "{let x=@;x}", "{x=@;}", "{x=@;x}", "{print @;}", "{print @;x}", "{while @{}}", "{while @{}x}", "{while a{@}}", "{while a{}@}", "{while a{}@;}", "{while a{@;}}",
	}
	for _, s := range signs() {
		l = append(l, "@"+s+"1", "1"+s+"@", "@"+s+"@")
	}
	return places(l...)
}

// exprItems are all places of the grammar in which an expr stands, in an item.
func exprItems() []place {
	return places("const c:int=@;", "macro m()=@;", "macro m(a,b)=@;", "fn f(){@}", "fn f(){@;}", "fn f(){1;@}", "fn f(){let x=@;}", "fn f(){x=@;}", "fn f(){print @;}",
		"fn f(){while @{}}", "fn f(){while a{@}}", "impl T for A{fn f(){@}}", "impl T for A{fn f(){}fn g(){@}}")
}

// exprs are exprs of all kinds.
func exprs() []string {
	l := []string{
		"1", "007", "true", "false", "a", "_", "f()", "f(1)", "f(a,b,c)", "m!()", "m!(1)", "m!(a,b)", "new T()", "new T(1)", "new T(a,b)", "a.x", "a.x.y", "1.x", "f().x", "true.x", "new T().x",
		"-1", "!a", "--1", "-!a", "!-a", "-a.x", "(-a).x", "if a{}else{}", "if a{1}else{2}", "if if a{}else{}{}else{}", "{}", "{1}", "{1;}", "{1;2}", "{{}}", "{{};}", "{let x=1;}", "{x=1;}", "{print 1;}", "{while a{}}",
		"{let x=1;x=2;while a{print x;}x;x}", "{}.x", "if a{}else{}.x", "(a+b).x", "-(a+b)", "a-(b-c)", "a-b-c", "(a<b)==c", "a<b&&c", "a*(b+c)", "a||b&&c", "(a||b)&&c", "a+b*-c.d",
	}
	for _, s := range signs() {
		l = append(l, "a"+s+"b")
	}
	return l
}

// typePlaces are all places of the grammar in which a type stands.
func typePlaces() []place {
	return places("const c:@=1;", "fn f(x:@){}", "fn f(x:@,y:@){}", "fn f<T>(x:int,y:@){}", "fn f()->@{}", "type T{a:@}", "type T<A>{a:int,b:@}", "impl T for @{}", "impl<A>T for @{fn f(){}}",
		"impl T for int{fn f(x:@){}}", "impl T for int{fn f()->@{}}", "A<@>", "A<@,int>", "A<int,@>", "A<int,B<@>>")
}

// sigPlaces are those in which Self is a type, too.
func sigPlaces() []place {
	return places("trait T{fn f(x:@);}", "trait T{fn f(x:int,y:@);}", "trait T{fn f()->@;}", "trait T{fn f()->A<@>;}", "trait T{fn f();fn g(x:A<int,@>)->@;}")
}

func typesOf() []string {
	return []string{"int", "bool", "unit", "a", "T9", "A<int>", "A<bool,unit>", "A<B<C<D>>>", "A<B<int>,C,D<E,unit>>"}
}

// shortTexts are items, exprs and types that are as short as they can be.
func shortTexts() []string {
	l := slices.Concat(exprs(), typesOf())
	for _, p := range slices.Concat(exprItems(), exprPlaces()) {
		l = append(l, tight(p.with("a", must("a"))), tight(p.with("-b", must("-b"))))
	}
	for _, p := range slices.Concat(typePlaces(), sigPlaces()) {
		l = append(l, tight(p.with("A<int>", mustType("A<int>"))))
	}
	return append(l, items()...)
}

func mustType(text string) api.Tree {
	t, ok := parser.Type(text)
	if !ok {
		panic(text)
	}
	return t
}

// items are items of all kinds with all that may be in them or not.
func items() []string {
	return []string{
		"use a;", "pub use a;", "const a:int=1;", "const a:A<int>=1;",
		"fn f(){}", "fn f<T>(){}", "fn f<T:S>(){}", "fn f<T,U>(){}", "fn f<T:S,U,V:W>(){}", "fn f(a:int){}", "fn f(a:int,b:A<T>,c:unit){}", "fn f()->int{1}", "fn f()->A<unit>{}", "fn f<T:S>(a:T)->T{a}",
		"type T{}", "type T<A>{}", "type T<A:S,B>{}", "type T{a:int}", "type T<A>{a:A,b:T<A>}",
		"trait T{}", "trait T:A{}", "trait T:A+B{}", "trait T:A+B+C{}", "trait T{fn m();}", "trait T{fn m(s:Self);}", "trait T{fn m()->Self;}", "trait T{fn m(s:Self,x:A<Self>)->A<Self>;fn n();fn o()->int;}", "trait T:A{fn m()->int;}",
		"impl T for int{}", "impl T for A<int>{}", "impl<A>T for A{}", "impl<A:S,B>T for C<A,B>{}", "impl T for unit{fn m(){}}", "impl T for bool{fn m(a:int,b:int)->int{a}fn n(){}fn o()->A<B>{}}",
		"macro m()=1;", "macro m(a)=a;", "macro m(a,b,c)=a+b*c;", "macro m()={let x=1;x};",
	}
}
