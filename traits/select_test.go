package traits_test

import (
	"testing"

	"recompile/api"
	"recompile/traits"
)

// checkSelect tests what Select returns: the index, and the arguments with blanks between them.
func checkSelect(t *testing.T, l []api.Header, x api.Type, index int, args string) {
	t.Helper()
	i, got, ok := traits.Select(l, x)
	if want := ofs(args); i != index || ok != (index >= 0) || shows(got) != shows(want) {
		t.Errorf("Select of %s for %s: %d, %s, %t; wanted: %d, %s", showHeaders(l), show(x), i, shows(got), ok, index, shows(want))
	}
}

func TestSelect(t *testing.T) {
	for _, c := range []struct {
		headers, t string
		index      int
		args       string
	}{
		{"", "int", -1, ""},
		{"S for int", "int", 0, ""},
		{"S for int", "bool", -1, ""},
		{"S for int; S for bool; S for L<int>", "L<bool>", -1, ""},
		{"T S for L<$T>; S for int", "int", 1, ""},
		{"T:S S for L<$T>; S for int", "L<L<bool>>", 0, "L<bool>"},
		{"T S for $T", "P<int,$T>", 0, "P<int,$T>"},
		{"T U S for P<$T,$U>", "P<int,bool>", 0, "int bool"},
		{"T U S for P<$U,$T>", "P<int,bool>", 0, "bool int"},
		{"T S for P<$T,$T>", "P<int,bool>", -1, ""},
		{"T S for P<$T,$T>", "P<L<int>,L<int>>", 0, "L<int>"},
		{"T S for P<L<$T>,$T>", "P<L<int>,int>", 0, "int"},
		{"T S for L<$T>", "L", -1, ""},
		{"T S for L<$T>", "L<int,int>", -1, ""},
		{"S for L", "L<int>", -1, ""},
		{"S for error", "error", 0, ""},
		{"T S for $T", "error", 0, "error"},
		{"S for int", "error", -1, ""},
		{"T S for L<$T>", "L<error>", 0, "error"},
		{"S for int", "$T", -1, ""},
		{"T S for L<$T>", "L<$T>", 0, "$T"},
		{"T S for L<$T>", "L<?0>", 0, "?0"},
		{"S for L<?0>", "L<int>", -1, ""},
		{"T S for $T<int>", "$T<int>", 0, "error"},
		{"T S for $T<int>", "L<int>", -1, ""},
		{"T S for $T<$T>", "$T<int>", 0, "int"},
	} {
		checkSelect(t, headers(c.headers), of(c.t), c.index, c.args)
	}
}

func TestTheFirstHeaderThatMatches(t *testing.T) {
	l := headers("T S for L<L<$T>>; T S for L<$T>; S for L<int>; T S for $T; S for int; T U S for L<$U>")
	checkSelect(t, l, of("L<L<int>>"), 0, "int")
	checkSelect(t, l, of("L<int>"), 1, "int")
	checkSelect(t, l, of("int"), 3, "int")
	checkSelect(t, l[4:], of("int"), 0, "")
	checkSelect(t, l[4:], of("L<int>"), 1, "error int")
	checkSelect(t, l[4:5], of("L<int>"), -1, "")
	// what an earlier header has found does not count for a later one
	checkSelect(t, headers("T U S for P<$T,P<$U,int>>; T U V S for P<$U,$V>"), of("P<bool,P<L<int>,bool>>"), 1, "error bool P<L<int>,bool>")
}

func TestParamsThatTheTypeDoesNotName(t *testing.T) {
	checkSelect(t, headers("T U V S for L<$U>"), of("L<int>"), 0, "error int error")
	checkSelect(t, headers("T:S S for int"), of("int"), 0, "error")
	checkSelect(t, headers("S for P<$T,$U>"), of("P<int,bool>"), 0, "")
	// the same name twice
	checkSelect(t, headers("T:A T:B X X T S for L<$T>"), of("L<L<int>>"), 0, "L<int> L<int> error error L<int>")
	// names are without the "$"
	l := []api.Header{{Params: []api.Param{{Name: "$T"}, {Name: ""}, {Name: "T"}, {Name: "?0"}}, Type: of("L<$T>")}}
	checkSelect(t, l, of("L<int>"), 0, "error error int error")
	l[0].Type = ty("P", ty("$"), ty("$$T"))
	checkSelect(t, l, of("P<int,bool>"), 0, "bool int error error")
}

func TestSelectOfDifferentTraits(t *testing.T) {
	l := headers("S for int; R for int; T R for L<$T>; S for bool; S for L<int>")
	checkSelect(t, l, of("L<int>"), 2, "int")
	checkSelect(t, l, of("bool"), 3, "")
	checkSelect(t, l[1:], of("int"), 0, "")
	l[2].Trait = ""
	checkSelect(t, l, of("L<int>"), 2, "int")
}

func TestSelectWithUnusualNames(t *testing.T) {
	l := []api.Header{{Type: ty("")}, {Type: ty("L<int>")}, {Type: ty("L", ty("int,int"))}, {Type: ty("L", ty("int"), ty("int"))}, {Type: ty("", ty("$T")), Params: []api.Param{{Name: "T"}}}}
	checkSelect(t, l, ty(""), 0, "")
	checkSelect(t, l, ty("L<int>"), 1, "")
	checkSelect(t, l, ty("L", ty("int")), -1, "")
	checkSelect(t, l, ty("L", ty("int,int")), 2, "")
	checkSelect(t, l, ty("L", ty("int"), ty("int")), 3, "")
	checkSelect(t, l, ty("", ty("")), 4, "_")
}
