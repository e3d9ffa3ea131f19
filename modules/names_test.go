package modules_test

import (
	"slices"
	"strings"
	"testing"

	"recompile/api"
	"recompile/modules"
)

func TestNamesOfEachKind(t *testing.T) {
	for text, want := range map[string]string{
		"":                                       "",
		"use a;":                                 "",
		"pub use a;":                             "",
		"const a: b = c;":                        "a",
		"fn a<B>(c: d) -> e { let f = g; h(i) }": "a",
		"type a<B> { c: d, e: f }":               "a",
		"macro a(b, c) = d;":                     "a",
		"trait a { }":                            "a",
		"trait a: b + c { }":                     "a",
		"trait a { fn b(c: d) -> e; }":           "a,b",
		"trait b { fn a(); fn c(); }":            "a,b,c",
		"trait a: b { fn d(); fn c(); }":         "a,c,d",
		"impl a for b { }":                       "impl a for b",
		"impl<T: c> a for b<T> { }":              "impl a for b[T]",
		"impl a for int { fn g(h: i) -> j { k } fn f() { } }": "impl a for int,impl a for int.f,impl a for int.g",
	} {
		if got := modules.Names(parsed(t, text)); !slices.Equal(got, words(want)) {
			t.Errorf("%s: %q", text, got)
		}
	}
}

func TestNamesAscendEachOnce(t *testing.T) {
	for text, want := range map[string]string{
		"fn b() { } fn a() { } fn c() { }":                                                    "a,b,c",
		"fn a() { } fn _() { } fn B() { } fn aB() { } fn a1() { } fn A() { }":                 "A,B,_,a,a1,aB",
		"fn a() { } fn a() { }":                                                               "a",
		"fn a() { } const a: int = 1; type a { } macro a() = 1; trait a { fn a(); }":          "a",
		"trait a { fn b(); } trait c { fn b(); } fn c() { }":                                  "a,b,c",
		"trait a { fn b(); fn b(); fn a(); }":                                                 "a,b",
		"impl a for b { fn f() { } fn f() { } }":                                              "impl a for b,impl a for b.f",
		"impl a for b { fn f() { } } impl a for b { fn g() { } fn f() { } }":                  "impl a for b,impl a for b.f,impl a for b.g",
		"impl a for b { } impl a for b { } fn a() { } fn b() { }":                             "a,b,impl a for b",
		"impl b for a { fn b() { } } impl a for b { } fn z() { } fn impl1() { }":              "impl a for b,impl b for a,impl b for a.b,impl1,z",
		"impl a for b { fn c() { } } impl a for bc { } impl a for b<c> { fn c() { } }":        "impl a for b,impl a for b.c,impl a for b[c],impl a for b[c].c,impl a for bc",
		"use x; type T { } pub use y; impl S for T { fn s() { } } trait S { fn s(); } use z;": "S,T,impl S for T,impl S for T.s,s",
	} {
		if got := modules.Names(parsed(t, text)); !slices.Equal(got, words(want)) {
			t.Errorf("%s: %q", text, got)
		}
	}
}

func TestTitles(t *testing.T) {
	for typed, want := range map[string]string{
		"int":                           "int",
		"bool":                          "bool",
		"unit":                          "unit",
		"T":                             "T",
		"List<int>":                     "List[int]",
		"List<T>":                       "List[T]",
		"Pair<int, bool>":               "Pair[int;bool]",
		"Three<a, b, c>":                "Three[a;b;c]",
		"List<List<unit>>":              "List[List[unit]]",
		"Pair<List<int>, b>":            "Pair[List[int];b]",
		"Pair<a, List<int>>":            "Pair[a;List[int]]",
		"Pair<Pair<a,b>,Pair<c,d>>":     "Pair[Pair[a;b];Pair[c;d]]",
		"A<B<C<d>, e>, F, G<H<i, j>>>":  "A[B[C[d];e];F;G[H[i;j]]]",
		" List // a comment\n < int > ": "List[int]",
	} {
		title := "impl A for " + want
		items := parsed(t, "impl A for "+typed+" { fn f() { } fn A() { } }")
		if got := modules.Names(items); !slices.Equal(got, []string{title, title + ".A", title + ".f"}) {
			t.Errorf("%s: %q", typed, got)
		}
		for i, name := range []string{title, title + ".f", title + ".A"} {
			if got, ok := modules.Item(items, name); !ok || i > 0 && got.Text != name[len(title)+1:] {
				t.Errorf("Item of %s: %q, %v", name, got.Text, ok)
			}
		}
	}
}

func TestTitlesAtTheLimits(t *testing.T) {
	deep := strings.Repeat("A<", api.MaxDepth-1) + "b" + strings.Repeat(">", api.MaxDepth-1)
	wide := "A<b" + strings.Repeat(",b", 5000) + ">"
	long := strings.Repeat("x", 9000)
	for i, c := range []struct{ typed, want string }{
		{deep, strings.NewReplacer("<", "[", ">", "]").Replace(deep)},
		{wide, "A[b" + strings.Repeat(";b", 5000) + "]"},
		{long, long},
	} {
		title := "impl T for " + c.want
		if got := modules.Names(parsed(t, "impl T for "+c.typed+" { fn f() { } }")); !slices.Equal(got, []string{title, title + ".f"}) {
			t.Errorf("type %d: %d names", i, len(got))
		}
	}
}

func TestNamesOfManyItems(t *testing.T) {
	var text, again strings.Builder
	var want []string
	for i := range 1200 {
		name := "f" + string(rune('a'+i/100)) + string(rune('0'+i/10%10)) + string(rune('0'+i%10))
		want = append(want, name)
		text.WriteString("fn " + name + "(){}")
		again.WriteString("type " + name + "{}")
	}
	items := append(parsed(t, again.String()), parsed(t, text.String())...)
	slices.Reverse(items)
	if got := modules.Names(items); !slices.Equal(got, want) {
		t.Errorf("%d names", len(got))
	}
	if got := modules.Again(items); len(got) != 1200 {
		t.Errorf("%d names come again", len(got))
	}
}

func TestUses(t *testing.T) {
	for text, want := range map[string]string{
		"":                                    ";",
		"fn use1() { }":                       ";",
		"use a;":                              "a;",
		"pub use a;":                          ";a",
		"use b; use a;":                       "a,b;",
		"pub use b; pub use a;":               ";a,b",
		"use a; use a;":                       "a;",
		"pub use a; pub use a;":               ";a",
		"use a; pub use a;":                   "a;a",
		"pub use a; use a; use b; pub use c;": "a,b;a,c",
		"use c; pub use e; use b; use c; pub use d; use a; pub use e; use b; pub use a;":                                                  "a,b,c;a,d,e",
		"use a; fn c() { } use B; trait d { fn e(); } pub use _; impl d for f { } pub use F; const g: int = 1; type h { } macro i() = 1;": "B,a;F,_",
	} {
		used, public := modules.Uses(parsed(t, text))
		if strings.Join(used, ",")+";"+strings.Join(public, ",") != want {
			t.Errorf("%s: %q, %q", text, used, public)
		}
	}
}
