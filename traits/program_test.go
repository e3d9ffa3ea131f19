package traits_test

import (
	"slices"
	"strings"
	"testing"

	"recompile/api"
	"recompile/modules"
	"recompile/parser"
	"recompile/resolve"
	"recompile/shape"
	"recompile/signature"
	"recompile/traits"
)

// program is a module p after name resolution.
type program struct {
	names   []string
	trees   map[string]api.Tree
	known   map[string]api.Signature
	headers []api.Header
	supers  []api.Super
}

func compile(t *testing.T, text string) program {
	t.Helper()
	items, errors := parser.Module(text)
	if len(errors) > 0 {
		t.Fatalf("errors at %v", errors)
	}
	p := program{names: modules.Names(items), trees: map[string]api.Tree{}, known: map[string]api.Signature{}}
	binds := modules.Step("p", p.names, nil)
	for _, name := range p.names {
		def, _ := modules.Item(items, name)
		p.trees[name] = resolve.Resolve(shape.Number(def), binds).Tree
		x := signature.Of("p::"+name, p.trees[name])
		p.known["p::"+name] = x
		if x.Kind == api.SigImpl {
			p.headers = append(p.headers, api.Header{Def: "p::" + name, Params: x.Params, Trait: x.Trait, Type: x.Args[0]})
		}
		for _, above := range x.Names {
			if above, ok := strings.CutPrefix(above, ":"); ok && x.Kind == api.SigTrait {
				p.supers = append(p.supers, api.Super{Trait: "p::" + name, Above: above})
			}
		}
	}
	return p
}

// check returns the diagnostics of an implementation, as "7 show".
func (p program) check(name string) string {
	in := p.trees[name]
	var l []api.Known
	for _, method := range p.known[in.Text].Names {
		if !strings.HasPrefix(method, ":") {
			l = append(l, api.Known{Def: method, Sig: p.known["p::"+method]})
		}
	}
	return showDiags(traits.Check(in, p.known["p::"+name].Args[0], l))
}

func TestProgram(t *testing.T) {
	p := compile(t, `
		type Nil {}
		type List<T> { head: T, tail: List<T> }
		type Pair<A, B> { a: A, b: B }
		trait Eq { fn eq(a: Self, b: Self) -> bool; }
		trait Ord: Eq { fn less(a: Self, b: Self) -> bool; fn least() -> List<Self>; }
		trait Show { fn show(s: Self); }
		impl Eq for int { fn eq(a: int, b: int) -> bool { a == b } }
		impl Eq for bool { fn eq(a: bool, c: bool) -> bool { a } }
		impl<T: Eq> Eq for List<T> { fn eq(a: List<T>, b: List<T>) -> bool { eq(a.head, b.head) } }
		impl<A: Eq, B: Eq> Eq for Pair<A, B> { fn eq(a: Pair<A, B>, b: Pair<A, B>) -> bool { true } }
		impl Ord for int { fn less(a: int, b: int) -> bool { a < b } fn least() -> List<int> { least() } }
		impl<T: Ord> Ord for List<T> { fn least() -> List<T> { none } }
		impl<A: Ord, B: Eq> Ord for Pair<A, B> { fn less(a: Pair<A, B>, b: Pair<A, A>) -> bool { true } fn lest() -> int { 0 } }
		impl Ord for Nil { fn less(a: Nil, b: Nil) -> bool { true } fn least() -> List<Nil> { least() } }
		impl<T: Show> Show for List<T> { fn show(l: List<T>) { show(l.head) } }
		impl Show for int { fn show(i: int) { print i; } }
		impl<T> Show for List<List<T>> { fn show(l: List<List<T>>) -> int { 0 } fn show(l: List<List<T>>) { } }`)
	for g, want := range map[string]bool{
		"Eq int": true, "Eq p::List<p::Pair<int,bool>>": true, "Eq p::List<p::Nil>": false, "Eq p::Pair<int,p::Nil>": false, "Eq p::List<$p::Eq>": true, "Eq p::List<$p::Ord>": false, "Eq error": true,
		"Ord int": true, "Ord bool": false, "Ord p::List<int>": true, "Ord p::Pair<int,bool>": true, "Ord p::Pair<bool,int>": false, "Ord p::Nil": false, "Ord p::List<p::List<p::Pair<int,bool>>>": true, "Ord p::Pair<int,p::Nil>": false,
		"Show int": true, "Show bool": false, "Show p::List<int>": true, "Show p::List<p::List<int>>": true, "Show p::List<bool>": false, "Show p::Pair<int,int>": false, "Other int": false, "Show p::List<p::List<bool>>": true,
	} {
		got, ok := traits.ReadGoal("p::" + g)
		if !ok {
			t.Fatalf("%s is no goal", g)
		}
		checkHolds(t, p.headers, p.supers, got, want)
	}
	for name, want := range map[string]string{
		"impl Eq for int": "", "impl Eq for bool": "", "impl Eq for List[T]": "", "impl Eq for Pair[A;B]": "", "impl Ord for int": "", "impl Show for int": "", "impl Ord for Nil": "", "impl Show for List[T]": "",
		"impl Ord for List[T]": "13@0 less, 13@6 least", "impl Ord for Pair[A;B]": "13@0 least, 13@9 less, 13@23 lest", "impl Show for List[List[T]]": "13@6 show",
	} {
		if got := p.check(name); got != want {
			t.Errorf("%s: %s, not %s", name, got, want)
		}
	}
	var overlapping []string
	for _, i := range traits.Overlaps(p.headers) {
		overlapping = append(overlapping, p.headers[i].Def)
	}
	if want := []string{"p::impl Show for List[T]"}; !slices.Equal(overlapping, want) {
		t.Errorf("%q overlap, not %q", overlapping, want)
	}
	if i, args, ok := traits.Select(p.headers, of("p::Pair<int,p::List<bool>>")); !ok || p.headers[i].Def != "p::impl Eq for Pair[A;B]" || shows(args) != shows(ofs("int p::List<bool>")) {
		t.Errorf("the header %d is selected, with %s", i, shows(args))
	}
}
