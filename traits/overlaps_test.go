package traits_test

import (
	"slices"
	"strconv"
	"testing"

	"recompile/api"
	"recompile/traits"
)

func checkOverlaps(t *testing.T, l []api.Header, want ...int) {
	t.Helper()
	if got := traits.Overlaps(l); !slices.Equal(got, want) {
		t.Errorf("Overlaps of %s: %v, not %v", showHeaders(l), got, want)
	}
}

func TestOverlaps(t *testing.T) {
	checkOverlaps(t, nil)
	for l, want := range map[string][]int{
		"S for int":                                     nil,
		"S for int; S for bool":                         nil,
		"S for int; S for int":                          {1},
		"S for int; S for L<int>":                       nil,
		"S for L<int>; S for L<bool>":                   nil,
		"S for L<int>; S for L":                         nil,
		"S for L<int>; S for L<int,int>":                nil,
		"T S for $T; S for int":                         {1},
		"S for int; T S for $T":                         {1},
		"T S for $T; T S for $T":                        {1},
		"T S for L<$T>; S for L<int>":                   {1},
		"T S for L<$T>; S for P<int,int>":               nil,
		"T S for L<L<$T>>; S for L<int>":                nil,
		"T S for L<L<$T>>; T S for L<$T>":               {1},
		"T S for P<int,$T>; T S for P<$T,bool>":         {1},
		"T S for P<int,$T>; T S for P<bool,$T>":         nil,
		"T S for P<$T,$T>; S for P<int,bool>":           nil,
		"T S for P<$T,$T>; S for P<int,int>":            {1},
		"T S for P<$T,$T>; T U S for P<$T,$U>":          {1},
		"T S for P<$T,$T>; T U S for P<L<$T>,L<L<$U>>>": {1},
		"T S for P<$T,$T>; T S for P<$T,L<$T>>":         nil,
		"T S for P<$T,$T>; T U S for P<$T,L<$U>>":       {1},
		"S for error; S for int":                        {1},
		"S for L<error>; S for L<int>; S for int":       {1},
	} {
		checkOverlaps(t, headers(l), want...)
	}
}

// Parameters of different headers are different, even if they have the same name.
func TestOverlapsWithTheSameNames(t *testing.T) {
	for l, want := range map[string][]int{
		"T S for $T; T S for L<$T>":                              {1},
		"T S for L<$T>; T S for $T":                              {1},
		"T U S for P<$T,$U>; T U S for P<$U,L<$T>>":              {1},
		"T S for P<$T,L<$T>>; T S for P<L<$T>,$T>":               nil,
		"T S for P<$T,int>; T S for P<bool,$T>":                  {1},
		"T U S for P<L<$T>,$U>; T U S for P<$T,$U>":              {1},
		"T U S for P<$T,L<$U>>; T U S for P<L<$U>,$T>":           {1},
		"A B C S for Q<$A,$B,$C>; A B C S for Q<L<$A>,L<$A>,$B>": {1},
		"A B C S for Q<$A,$B,$B>; A B C S for Q<L<$A>,$B,L<$A>>": {1},
		"A B C S for Q<$A,$B,$A>; A B C S for Q<L<$A>,$B,$A>":    nil,
		"T U S for P<$T,$U>; U T S for P<$U,$T>; T S for L<$T>":  {1},
	} {
		checkOverlaps(t, headers(l), want...)
	}
	// a header need not have Params for the parameters of its Type, and Params that are not in it do not matter
	checkOverlaps(t, headers("S for L<$T>; X Y S for $T; X S for X"), 1, 2)
	checkOverlaps(t, headers("X S for X; X S for L<X>"))
	// bounds do not matter
	checkOverlaps(t, headers("T:A S for L<$T>; T:B S for L<$T>"), 1)
	// a parameter with Args is a type like others
	checkOverlaps(t, headers("S for $T<int>; S for $T<int>; S for $T<bool>; S for $U<int>; T S for $T<$T>"), 1, 4)
}

func TestOverlapsOfDifferentTraits(t *testing.T) {
	checkOverlaps(t, headers("S for int; R for int"))
	checkOverlaps(t, headers("S for int; R for int; S for int; T R for $T; Q for int"), 2, 3)
	checkOverlaps(t, headers("T S for $T; R for int; R for bool; S for bool; R for L<int>"), 3)
	checkOverlaps(t, headers("p::S for int; q::S for int; S for int; p::S for int"), 3)
	checkOverlaps(t, []api.Header{{Type: of("int")}, {Trait: "S", Type: of("int")}, {Type: of("int")}}, 2)
}

func TestOverlapsOfSeveralHeaders(t *testing.T) {
	checkOverlaps(t, headers("S for int; S for bool; S for int"), 2)
	checkOverlaps(t, headers("S for int; S for bool; S for bool"), 2)
	checkOverlaps(t, headers("S for int; S for bool; T S for $T"), 2)
	checkOverlaps(t, headers("T S for $T; S for bool; S for int"), 1, 2)
	checkOverlaps(t, headers("S for int; T S for $T; S for bool"), 1, 2)
	checkOverlaps(t, headers("S for int; S for int; S for int; S for bool; S for int"), 1, 2, 4)
	checkOverlaps(t, headers("T S for P<$T,int>; T S for P<bool,$T>; S for P<int,bool>; S for P<bool,bool>; S for P<int,int>"), 1, 3, 4)
	checkOverlaps(t, headers("T S for L<$T>; T S for P<$T,$T>; S for P<int,L<int>>; S for P<L<int>,L<int>>"), 3)
}

// Two headers with many parameters have as many variables, and each one its own.
func TestOverlapsOfManyParameters(t *testing.T) {
	n := 3000
	many := func(name string) api.Type {
		out := ty("Q")
		for i := range n {
			out.Args = append(out.Args, ty(name+strconv.Itoa(i)))
		}
		return out
	}
	a, b := many("$T"), many("$T")
	checkOverlaps(t, []api.Header{{Type: a}, {Type: b}}, 1)
	b.Args[n-1] = ty("$T0")
	checkOverlaps(t, []api.Header{{Type: a}, {Type: b}}, 1)
	a.Args[0], a.Args[n-1] = ty("int"), ty("bool")
	checkOverlaps(t, []api.Header{{Type: a}, {Type: b}})
	checkOverlaps(t, []api.Header{{Type: b}, {Type: a}})
	a.Args[0] = ty("bool")
	checkOverlaps(t, []api.Header{{Type: b}, {Type: a}}, 1)
}
