package traits_test

import (
	"testing"

	"recompile/api"
	"recompile/traits"
)

// checkLeads tests what Leads returns; "no" is a goal that does not stand.
func checkLeads(t *testing.T, l []api.Header, s []api.Super, g api.Goal, want string) {
	t.Helper()
	got, ok := traits.Leads(l, s, g)
	if want == "no" {
		if ok || len(got) != 0 {
			t.Errorf("%s with %s and %v leads to %s, %t", showGoals([]api.Goal{g}), showHeaders(l), s, showGoals(got), ok)
		}
		return
	}
	if !ok || showGoals(got) != showGoals(goals(want)) {
		t.Errorf("%s with %s and %v leads to %s, %t, not %s", showGoals([]api.Goal{g}), showHeaders(l), s, showGoals(got), ok, want)
	}
}

func checkHolds(t *testing.T, l []api.Header, s []api.Super, g api.Goal, want bool) {
	t.Helper()
	if traits.Holds(l, s, g) != want {
		t.Errorf("with %s and %v that %s holds is %t", showHeaders(l), s, showGoals([]api.Goal{g}), !want)
	}
}

func TestLeadsOfParameters(t *testing.T) {
	l, s := headers("T:R S for $T; S for $S; R for $S; R for $T"), supers("S>A A>S R>A")
	for g, want := range map[string]string{"S $S": "", "S $T": "no", "R $S": "no", "R $R": "", "p::S $p::S": "", "p::S $S": "no", "S $": "no", "S $S<int>": "", "S $T<$S>": "no", "S $SS": "no", "S $s": "no", "SS $S": "no", "A $A": ""} {
		checkLeads(t, l, s, goal(g), want)
		checkLeads(t, nil, nil, goal(g), want)
		checkHolds(t, l, s, goal(g), want == "")
		checkHolds(t, nil, nil, goal(g), want == "")
	}
	checkLeads(t, l, s, api.Goal{Type: ty("$")}, "")
	checkLeads(t, l, s, api.Goal{Type: ty("$S")}, "no")
	checkLeads(t, l, s, api.Goal{Trait: "$S", Type: ty("$S")}, "no")
	checkLeads(t, l, s, api.Goal{Trait: "$S", Type: ty("$$S")}, "")
	// what begins with another byte is a type like others
	checkLeads(t, headers("T S for $T"), nil, goal("S S"), "")
	checkLeads(t, headers("T:S S for $T"), nil, goal("S ?0"), "S ?0")
	checkLeads(t, headers("T:S S for $T"), nil, goal("S L<$T>"), "S L<$T>")
}

func TestLeadsOfError(t *testing.T) {
	l, s := headers("T:R S for $T; S for error"), supers("S>A A>S")
	for _, g := range []string{"S error", "A error", "R error", "S error<int>", "error error"} {
		checkLeads(t, l, s, goal(g), "")
		checkLeads(t, nil, nil, goal(g), "")
		checkHolds(t, l, s, goal(g), true)
		checkHolds(t, nil, nil, goal(g), true)
	}
	checkLeads(t, nil, nil, goal("S errors"), "no")
	checkLeads(t, nil, nil, goal("S Error"), "no")
	checkLeads(t, nil, nil, goal("S L<error>"), "no")
	checkLeads(t, nil, nil, goal("error int"), "no")
	checkLeads(t, headers("T:S S for L<$T>"), nil, goal("S L<error>"), "S error")
}

func TestLeadsWithoutAHeader(t *testing.T) {
	for _, l := range []string{"", "S for int", "R for bool", "S for int; R for bool; S for L<bool>; T R for $T", "T S for L<$T>"} {
		checkLeads(t, headers(l), supers("S>A S>R"), goal("S bool"), "no")
		checkHolds(t, headers(l), nil, goal("S bool"), false)
		checkLeads(t, headers(l), nil, api.Goal{}, "no")
	}
	checkLeads(t, headers("S for int"), nil, api.Goal{Type: ty("int")}, "no")
}

func TestLeadsByTheFirstHeader(t *testing.T) {
	l := headers("T:A R for $T; T:B S for L<L<$T>>; T:C S for L<$T>; T:D S for L<int>; T:E U:F S for $U; T:G R for $T")
	for g, want := range map[string]string{
		"S L<L<int>>": "B int", "S L<int>": "C int", "S int": "E error, F int", "S P<int,bool>": "E error, F P<int,bool>", "R int": "A int", "R L<int>": "A L<int>", "A int": "no",
	} {
		checkLeads(t, l, nil, goal(g), want)
	}
	// the first one that matches counts, even if another one would hold
	checkHolds(t, headers("T:R S for L<$T>; S for L<int>"), nil, goal("S L<int>"), false)
	checkHolds(t, headers("S for L<int>; T:R S for L<$T>"), nil, goal("S L<int>"), true)
	checkHolds(t, headers("T:R S for L<$T>; S for L<int>; R for int"), nil, goal("S L<int>"), true)
}

func TestLeadsToBounds(t *testing.T) {
	for _, c := range [][3]string{
		{"S for int", "S int", ""},
		{"T S for L<$T>", "S L<int>", ""},
		{"T:R S for L<$T>", "S L<int>", "R int"},
		{"T U:R S for P<$T,$U>", "S P<int,bool>", "R bool"},
		{"T:B U:A S for P<$U,$T>", "S P<int,bool>", "B bool, A int"},
		{"U:A T:B S for P<$U,$T>", "S P<int,bool>", "A int, B bool"},
		{"T:S T:R X:S T:S S for L<$T>", "S L<L<int>>", "S L<int>, R L<int>, S error, S L<int>"},
		{"X:R S for int", "S int", "R error"},
		{"S for L<$T>", "S L<int>", ""},
		{"T:p::S p::S for L<$T>", "p::S L<$Q>", "p::S $Q"},
		{"T:R S for $T", "S P<int,L<bool>>", "R P<int,L<bool>>"},
	} {
		checkLeads(t, headers(c[0]), nil, goal(c[1]), c[2])
	}
}

func TestLeadsToSupers(t *testing.T) {
	l := headers("S for int; R for int; T:B U:A S for P<$T,$U>")
	for _, c := range [][3]string{
		{"", "S int", ""},
		{"S>R", "S int", "R int"},
		{"R>S", "S int", ""},
		{"S>B R>S S>A R>Q S>R", "S int", "B int, A int, R int"},
		{"S>B R>S S>A R>Q S>R", "R int", "S int, Q int"},
		{"S>R S>R S>S", "S int", "R int, R int, S int"},
		{"S>C Q>R S>B", "S P<int,bool>", "B int, A bool, C P<int,bool>, B P<int,bool>"},
		{"S>R", "S bool", "no"},
		{"Q>R", "Q int", "no"},
		{"S>R", "S $S", ""},
		{"S>R", "S error", ""},
		{"S>", "S int", " int"},
	} {
		checkLeads(t, l, supers(c[0]), goal(c[1]), c[2])
	}
	checkLeads(t, []api.Header{{Type: ty("int")}}, []api.Super{{Trait: "S", Above: "A"}, {Above: "B"}}, api.Goal{Type: ty("int")}, "B int")
}

// No trait is taken for one that begins or ends like it, wherever it stands among the others.
func TestHeadersAndSupersOfATrait(t *testing.T) {
	l := headers("T:1 C for $T; T:2 A for L<$T>; T:3 B for L<$T>; T:4 A for $T; T:5 BB for $T; T:6 B for $T; T:7 C for int; T:8 AB for $T")
	s := supers("C>1 A>2 BB>3 B>4 A>5 C>6 B>7 A>8")
	for g, want := range map[string]string{
		"A L<int>": "2 int, 2 L<int>, 5 L<int>, 8 L<int>", "A int": "4 int, 2 int, 5 int, 8 int", "B L<int>": "3 int, 4 L<int>, 7 L<int>", "B int": "6 int, 4 int, 7 int",
		"C int": "1 int, 1 int, 6 int", "BB int": "5 int, 3 int", "AB int": "8 int", "D int": "no", "AA int": "no", "BA int": "no", "1 int": "no", "ABB int": "no",
	} {
		checkLeads(t, l, s, goal(g), want)
	}
}

func TestHolds(t *testing.T) {
	for _, c := range []struct {
		headers, supers, yes, no string
	}{
		{"", "", "S $S, R $R, S error", "S int, S $R, R $S, S ?0"},
		{"T:S S for L<$T>; S for int", "", "S int, S L<int>, S L<L<int>>, S L<L<L<$S>>>, S L<error>", "S bool, S L<bool>, S L<L<bool>>, S L, S L<$T>, R L<int>"},
		{"T:S U:R S for P<$T,$U>; S for int; R for bool", "", "S P<int,bool>, S P<P<int,bool>,bool>, S P<$S,$R>", "S P<bool,int>, S P<int,int>, S P<bool,bool>, S P<int,P<int,bool>>, S P<$R,$S>"},
		{"S for int; R for int; S for bool", "S>R", "S int, R int, R $R, S $S", "S bool, R bool"},
		{"S for int; R for int; Q for int; S for bool; R for bool", "S>R R>Q", "S int, R int, Q int", "S bool, R bool, Q bool"},
		{"S for int; R for int; Q for int; S for bool; R for bool", "S>R S>Q", "S int, R int, R bool", "S bool, Q bool"},
		{"T S for L<$T>; T:S R for L<$T>; S for int", "S>R", "R L<$S>", "S int, R L<int>, S L<int>, S L<L<int>>, R int"},
		{"T S for L<$T>; T:S R for L<$T>; S for int; R for int", "S>R", "S int, R L<int>, S L<int>, S L<L<int>>", "S bool, S L<bool>, R L<bool>"},
		{"X:S S for int", "", "S int", "S bool"},
		{"X:S S for int; T:S R for L<$T>", "S>Q", "", "S int, R L<int>"},
		{"S for error", "", "S error, R error, S error<int>", "S L<error>"},
	} {
		for _, g := range goals(c.yes) {
			checkHolds(t, headers(c.headers), supers(c.supers), g, true)
		}
		for _, g := range goals(c.no) {
			checkHolds(t, headers(c.headers), supers(c.supers), g, false)
		}
	}
}

// The example of the chapter.
func TestListsThatAreShown(t *testing.T) {
	l := headers("T:Show Show for List<$T>; Show for int")
	checkHolds(t, l, nil, goal("Show List<List<int>>"), true)
	checkHolds(t, l, nil, goal("Show List<bool>"), false)
}

func TestGoalsThatLeadBackToThemselves(t *testing.T) {
	for _, c := range []struct{ headers, supers, no string }{
		{"T:S S for $T", "", "S int, S L<int>, S bool"},
		{"S for int", "S>S", "S int"},
		{"S for int; R for int", "S>R R>S", "S int, R int"},
		{"S for int; R for int; Q for int", "S>R R>Q Q>R", "S int, R int, Q int"},
		{"T:R S for $T; T:S R for $T", "", "S int, R int, S L<int>"},
		{"T:R S for L<$T>; T S for int; T:R R for $T", "", "S L<int>, S L<bool>, R int, R L<$R>"},
		{"T S for L<$T>; R for L<int>", "S>R R>S", "S L<int>, R L<int>, S L<bool>"},
		{"T:S S for L<$T>; S for int", "S>S", "S int, S L<int>, S L<L<int>>"},
		// what comes before and after it holds
		{"T:Q U:S V:Q S for P<$T,$U,$V>; S for int; Q for int", "S>S", "S P<int,int,int>"},
	} {
		for _, g := range goals(c.no) {
			checkHolds(t, headers(c.headers), supers(c.supers), g, false)
		}
	}
	// a goal does not lead back by the same trait, or the same type, alone
	checkHolds(t, headers("T:S S for L<$T>; S for int"), nil, goal("S L<L<L<int>>>"), true)
	checkHolds(t, headers("S for int; R for int; Q for int"), supers("S>R R>Q S>Q"), goal("S int"), true)
	// parameters and the type error lead to none
	checkHolds(t, headers("T:S S for $T"), supers("S>S"), goal("S $S"), true)
	checkHolds(t, headers("T:S S for $T"), supers("S>S"), goal("S error"), true)
	checkHolds(t, headers("T:S S for L<$T>"), supers(""), goal("S L<error>"), true)
}

// A goal that is reached more than once, but does not lead back, is like any other.
func TestGoalsThatAreReachedMoreThanOnce(t *testing.T) {
	checkHolds(t, headers("T:S U:S S for P<$T,$U>; S for int"), nil, goal("S P<P<int,int>,P<int,int>>"), true)
	checkHolds(t, headers("T:S U:S S for P<$T,$U>; S for int"), nil, goal("S P<P<int,int>,P<int,bool>>"), false)
	checkHolds(t, headers("T:S T:S T:S S for L<$T>; S for int"), nil, goal("S L<L<int>>"), true)
	checkHolds(t, headers("T:S T:S T:S S for L<$T>; S for int"), nil, goal("S L<L<bool>>"), false)
	checkHolds(t, headers("S for int; A for int; B for int; C for int"), supers("S>A S>B A>C B>C S>C S>C"), goal("S int"), true)
	checkHolds(t, headers("S for int; A for int; B for int; C for int"), supers("S>A S>B A>C B>C C>A"), goal("S int"), false)
	checkHolds(t, headers("S for int; A for int; B for int"), supers("S>A S>B A>C B>C"), goal("S int"), false)
	// what was found out about a goal holds for its trait alone, and its type alone
	checkHolds(t, headers("T:A U:B S for P<$T,$U>; A for int"), nil, goal("S P<int,int>"), false)
	checkHolds(t, headers("T:A U:A S for P<$T,$U>; A for int"), nil, goal("S P<int,bool>"), false)
}

// Types and traits whose texts are the same are different goals.
func TestGoalsWithTheSameText(t *testing.T) {
	l := []api.Header{
		{Trait: "S", Type: of("P<$T,$U>"), Params: []api.Param{{Name: "T", Bound: "S"}, {Name: "U", Bound: "S"}}},
		{Trait: "S", Type: of("L<int>")},
	}
	checkHolds(t, l, nil, api.Goal{Trait: "S", Type: ty("P", of("L<int>"), of("L<int>"))}, true)
	checkHolds(t, l, nil, api.Goal{Trait: "S", Type: ty("P", of("L<int>"), ty("L<int>"))}, false)
	checkHolds(t, l, nil, api.Goal{Trait: "S", Type: ty("P", ty("L<int>"), of("L<int>"))}, false)
	l = []api.Header{{Trait: "A B", Type: ty("C")}, {Trait: "A", Type: ty("B C")}}
	checkHolds(t, l, nil, api.Goal{Trait: "A B", Type: ty("C")}, true)
	checkHolds(t, l, []api.Super{{Trait: "A B", Above: "A"}}, api.Goal{Trait: "A B", Type: ty("C")}, false)
	checkHolds(t, l, nil, api.Goal{Trait: "A", Type: ty("B C")}, true)
	// an empty trait is a trait, and the zero type a type
	checkHolds(t, []api.Header{{}}, nil, api.Goal{}, true)
	checkHolds(t, []api.Header{{}}, []api.Super{{Above: "S"}}, api.Goal{}, false)
}
