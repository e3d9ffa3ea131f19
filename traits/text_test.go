package traits_test

import (
	"strings"
	"testing"

	"recompile/api"
	"recompile/traits"
	"recompile/types"
)

func TestGoal(t *testing.T) {
	for _, c := range []struct {
		g    api.Goal
		want string
	}{
		{goal("S int"), "S int"},
		{goal("p::Show p::L<p::P<int,$T>>"), "p::Show p::L<p::P<int,$T>>"},
		{api.Goal{}, " "},
		{api.Goal{Type: ty("int")}, " int"},
		{api.Goal{Trait: "S"}, "S "},
		{api.Goal{Trait: "a b", Type: ty(" c", ty("d,e"), ty(""))}, "a b  c<d,e,>"},
		{api.Goal{Trait: "S<", Type: ty("L<int>")}, "S< L<int>"},
		{api.Goal{Trait: "\xff", Type: ty("é\x00")}, "\xff é\x00"},
	} {
		if got := traits.Goal(c.g); got != c.want {
			t.Errorf("the string of %s is %q, not %q", showGoals([]api.Goal{c.g}), got, c.want)
		}
	}
}

func TestReadGoal(t *testing.T) {
	for s, want := range map[string]api.Goal{
		"S int":                      goal("S int"),
		"p::Show p::L<p::P<int,$T>>": goal("p::Show p::L<p::P<int,$T>>"),
		"S error":                    goal("S error"),
		"S ?0":                       goal("S ?0"),
		"S $S":                       goal("S $S"),
		"$ $":                        goal("$ $"),
		// all behind the first blank is the type
		"S  ":               {Trait: "S", Type: ty(" ")},
		"S  int":            {Trait: "S", Type: ty(" int")},
		"S int ":            {Trait: "S", Type: ty("int ")},
		"S a b c":           {Trait: "S", Type: ty("a b c")},
		"S L< a, b >":       {Trait: "S", Type: ty("L", ty(" a"), ty(" b "))},
		"S p::impl S for L": {Trait: "S", Type: ty("p::impl S for L")},
		"<,> int":           {Trait: "<,>", Type: ty("int")},
		"S\tR int":          {Trait: "S\tR", Type: ty("int")},
		"\xff\x00 \xfe":     {Trait: "\xff\x00", Type: ty("\xfe")},
		"a\u00a0b c":        {Trait: "a\u00a0b", Type: ty("c")},
	} {
		got, ok := traits.ReadGoal(s)
		if !ok || showGoals([]api.Goal{got}) != showGoals([]api.Goal{want}) {
			t.Errorf("ReadGoal(%q): %s, %t", s, showGoals([]api.Goal{got}), ok)
		}
		if traits.Goal(want) != s {
			t.Errorf("the string of %s is %q", showGoals([]api.Goal{want}), traits.Goal(want))
		}
	}
}

func TestReadGoalOfOtherStrings(t *testing.T) {
	for _, s := range []string{
		"", " ", "  ", "S", "int", "S<int>", "S\tint", "S\nint", "S\u00a0int",
		" int", "  int", " S int",
		"S ", "S <int>", "S L<", "S L<>", "S L<int", "S L<int>>", "S L<int>x", "S a,b", "S ,", "S L<,>", "S L<int,>", "S >", "S L<int> ",
	} {
		if got, ok := traits.ReadGoal(s); ok || showGoals([]api.Goal{got}) != showGoals([]api.Goal{{}}) {
			t.Errorf("ReadGoal(%q): %s, %t", s, showGoals([]api.Goal{got}), ok)
		}
	}
}

func TestReadGoalOfLargeTypes(t *testing.T) {
	most := "S L<" + strings.Repeat("x,", api.MaxNodes-2) + "x>"
	if g, ok := traits.ReadGoal(most); !ok || g.Trait != "S" || types.Size(g.Type) != api.MaxNodes || traits.Goal(g) != most {
		t.Errorf("a type of MaxNodes nodes is not read")
	}
	if g, ok := traits.ReadGoal(strings.Replace(most, "x", "x,x", 1)); ok || g.Trait != "" || g.Type.Name != "" {
		t.Errorf("a type of more than MaxNodes nodes is read")
	}
}

// A string is read exactly if it is that of a goal with a Trait without a blank and a type with plain Names.
func TestAllShortGoals(t *testing.T) {
	bytes := "a <>,"
	read := 0
	var all func(s string)
	all = func(s string) {
		trait, rest, found := strings.Cut(s, " ")
		x, parsed := types.Parse(rest)
		want := found && trait != "" && parsed
		g, ok := traits.ReadGoal(s)
		if ok != want || ok && (traits.Goal(g) != s || g.Trait != trait || !equal(g.Type, x)) || !ok && (g.Trait != "" || !equal(g.Type, api.Type{})) {
			t.Fatalf("ReadGoal(%q): %s, %t", s, showGoals([]api.Goal{g}), ok)
		}
		if ok {
			read++
		}
		for i := range len(bytes) {
			if len(s) < 7 {
				all(s + bytes[i:i+1])
			}
		}
	}
	all("")
	if read < 1000 {
		t.Errorf("only %d strings are read", read)
	}
}
