package macros_test

import (
	"slices"
	"strings"
	"testing"

	"recompile/api"
	"recompile/macros"
)

// library are macros by their definitions, with the binds of their module.
func library(t *testing.T) map[string]api.Macro {
	t.Helper()
	b := binds("a=p::a,b=p::b,c=p::c,d=p::d,e=p::e,f=p::f,z=p::z,loop=p::loop,two=p::a,two=p::b")
	out := map[string]api.Macro{}
	for _, m := range prepared(t, b, "p::a() = 1", "p::b(x) = x + a!()", "p::c(x) = b!(x) + z!(d!())", "p::d() = c!(1) + none!() + two!()", "p::e(x,y) = y", "p::f(x) = e!(x, a!())", "p::loop() = a!() + loop!()", "p::g() = g + a(1)") {
		out[m.Def] = m
	}
	return out
}

// all are the binds of a module that uses p.
const all = "a=p::a,b=p::b,c=p::c,d=p::d,e=p::e,f=p::f,z=p::z,loop=p::loop,two=p::a,two=p::b,g=p::g"

func TestNeeds(t *testing.T) {
	for _, c := range []struct{ text, have, want string }{
		// nothing is looked for
		{"1", "", ""},
		{"a + a(1)", "", ""},
		{"new a(a)", "", ""},
		{"none!()", "", ""},
		{"two!()", "", ""},
		{"none!(a!(), b!())", "", ""},
		// what is lacking at first
		{"a!()", "", "p::a"},
		{"a!(1)", "", "p::a"},
		{"z!()", "", "p::z"},
		{"b!(a!())", "", "p::b"},
		{"c!(b!(a!()))", "", "p::c"},
		{"b!(1) + a!()", "", "p::a p::b"},
		{"z!() + d!() + a!() + loop!() + b!(1)", "", "p::a p::b p::d p::loop p::z"},
		{"a!() + b!(1) + a!() + b!(2) + a!(3)", "", "p::a p::b"},
		{"none!() + b!() + two!() + a!()", "", "p::a p::b"},
		// what is lacking when some is there
		{"a!()", "p::a", ""},
		{"a!(1)", "p::a", ""},
		{"a!(b!(1))", "p::a", ""},
		{"a!() + b!(1)", "p::a", "p::b"},
		{"a!() + b!(1)", "p::b", "p::a"},
		{"b!(1)", "p::b", "p::a"},
		{"b!(c!(1) + d!())", "p::b", "p::a p::c p::d"},
		{"b!(c!(1) + d!())", "p::a p::b", "p::c p::d"},
		{"c!(1)", "p::a", "p::c"},
		{"c!(1)", "p::c", "p::b p::z"},
		{"c!(1)", "p::c p::a", "p::b p::z"},
		{"c!(1)", "p::c p::b", "p::a p::z"},
		{"c!(1)", "p::c p::b p::a", "p::z"},
		{"d!()", "p::d", "p::c"},
		{"d!()", "p::d p::c", "p::b p::z"},
		{"d!()", "p::d p::b p::a", "p::c"},
		{"e!(b!(1), c!(1))", "p::e", "p::c"},
		{"e!(b!(1), a!())", "p::e p::a", ""},
		{"f!(b!(1))", "p::f", "p::e"},
		{"f!(b!(1))", "p::f p::e", "p::a"},
		{"f!(b!(1))", "p::f p::e p::a", ""},
		{"loop!()", "p::loop", "p::a"},
		{"loop!()", "p::loop p::a", ""},
		{"g!()", "p::g", ""},
		// macros that are not needed
		{"a!()", "p::b p::c p::d p::e p::f p::loop p::g", "p::a"},
		{"1", "p::b p::c", ""},
	} {
		lib := library(t)
		var l []api.Macro
		for _, def := range strings.Fields(c.have) {
			l = append(l, lib[def])
		}
		if got := macros.Needs(expr(t, c.text), binds(all), l); strings.Join(got, " ") != c.want {
			t.Errorf("%s with %q: %q", c.text, c.have, got)
		}
	}
}

// Needs gives definitions of any form, ascending as strings of bytes.
func TestNeedsOfOtherTexts(t *testing.T) {
	b := []api.Bind{{Name: "e", Def: ""}, {Name: "n", Def: "::n"}, {Name: "B", Def: "B"}, {Name: "b", Def: "b"}, {Name: "aa", Def: "aa"}, {Name: "a", Def: "a"}, {Name: "z", Def: "\xff"}, {Name: "y", Def: "é"}}
	in := tree(api.KFn, "", 0)
	for _, text := range []string{"z", "y", "b", "B", "aa", "a", "n", "e", "q::m", "p::m", "p::", "::p", "::", "x", "p::m::n", "p:m", "b", "p::m", "aa"} {
		in.Kids = append(in.Kids, call(text, 1, call("b::b", 2)))
	}
	want := []string{"", "::n", "B", "a", "aa", "b", "p::", "p::m", "p::m::n", "q::m", "é", "\xff"}
	if got := macros.Needs(in, b, nil); !slices.Equal(got, want) {
		t.Errorf("%q", got)
	}
	l := []api.Macro{{Def: "p::m", Params: []string{"x"}, Body: name("x")}, {Def: "", Params: []string{"x", "y"}}, {Def: "::", Params: []string{"x"}}, {Def: "aa", Params: []string{"x"}, Body: call("c::c", 0, name("x"))}}
	if got := macros.Needs(in, b, l); !slices.Equal(got, []string{"::n", "B", "a", "b", "b::b", "c::c", "p::", "p::m::n", "q::m", "é", "\xff"}) {
		t.Errorf("with some of them: %q", got)
	}
}

// fetch calls Needs as long as it names a macro that was not asked for, and gives it those that exist, one after the other.
func fetch(t api.Tree, b []api.Bind, exist func(string) (api.Macro, bool)) ([]api.Macro, []string) {
	var l []api.Macro
	var asked []string
	for {
		needs := slices.DeleteFunc(macros.Needs(t, b, l), func(def string) bool { return slices.Contains(asked, def) })
		if len(needs) == 0 {
			return l, asked
		}
		def := needs[0]
		asked = append(asked, def)
		if m, ok := exist(def); ok {
			l = append(l, m)
		}
	}
}

// With the macros that Needs names, one after the other, Expand finds all that exist.
func TestWithTheMacrosThatNeedsNamesAllAreFound(t *testing.T) {
	lib := library(t)
	var every []api.Macro
	for _, m := range lib {
		every = append(every, m)
	}
	for text, want := range map[string]string{
		"1": "", "a!()": "p::a", "a!(1)": "p::a", "b!(1)": "p::b p::a", "z!() + g!()": "p::g p::z", "c!(a!())": "p::c p::b p::a p::z", "d!()": "p::d p::c p::b p::a p::z",
		"f!(b!(1))": "p::f p::e p::a", "f!(1) + b!(2)": "p::b p::a p::f p::e", "loop!()": "p::loop p::a", "none!() + two!() + z!()": "p::z",
		"e!(b!(1), 2)": "p::e", "e!(1, b!(2))": "p::e p::b p::a", "a!(b!(1))": "p::a", "z!(b!(1))": "p::z",
	} {
		l, asked := fetch(expr(t, text), binds(all), func(def string) (api.Macro, bool) { m, ok := lib[def]; return m, ok })
		if strings.Join(asked, " ") != want {
			t.Errorf("%s: %q", text, asked)
		}
		got, full := macros.Expand(expr(t, text), binds(all), l), macros.Expand(expr(t, text), binds(all), every)
		if show(got.Tree) != show(full.Tree) || showDiags(got.Diags) != showDiags(full.Diags) {
			t.Errorf("%s: with all macros it is %s, and %s", text, show(full.Tree), showDiags(full.Diags))
		}
		for _, d := range got.Diags {
			if _, ok := lib[d.Text]; ok && d.Code == api.CodeKind {
				t.Errorf("%s: %s is not found", text, d.Text)
			}
		}
	}
}
