package identity_test

import (
	"slices"
	"testing"

	"recompile/api"
	"recompile/identity"
)

// roomy returns a list with an element behind it, which an append to the list would write over.
func roomy[T any](l []T, behind T) []T {
	return append(append(make([]T, 0, len(l)+4), l...), behind)[:len(l)]
}

// spoilt are the elements that are written over others.
var spoilt = api.Identity{ID: -7, Item: api.Item{Module: "over", Name: "writ", Shape: "ten"}}

// spoil writes over a list and all that it has room for.
func spoil(l []api.Identity) {
	l = l[:cap(l)]
	for i := range l {
		l[i] = spoilt
	}
}

// pairsOfArguments are arguments of Update, with every error and without.
func pairsOfArguments() []struct {
	x api.Identities
	l []api.Item
} {
	type pair = struct {
		x api.Identities
		l []api.Item
	}
	out := []pair{
		{state(9, "1:m.a=s"), items("m.b=s m.a=s")}, {state(9, "1:m.a=s 1:m.b=t"), items("m.a=s")}, {state(0, ""), nil},
		{state(maxNext, "1:m.a=s"), items("m.a=s m.b=t")}, {state(9, "1:m.a=s"), many(api.MaxNodes+1, "m", "s")},
	}
	for _, c := range updates() {
		out = append(out, pair{state(10, c.x), items(c.l)})
	}
	return out
}

func TestUpdateSharesNothing(t *testing.T) {
	for i, c := range pairsOfArguments() {
		x := api.Identities{Next: c.x.Next, List: roomy(c.x.List, spoilt)}
		l := roomy(c.l, spoilt.Item)
		behind := func() bool {
			return x.List[:len(x.List)+1][len(x.List)] == spoilt && l[:len(l)+1][len(l)] == spoilt.Item
		}
		got, e := identity.Update(x, l)
		want := clone(got)
		if !equal(x, c.x) || !slices.Equal(l, c.l) || !behind() {
			t.Errorf("case %d: the arguments became %v, %v", i, x, l)
		}
		second, e2 := identity.Update(x, l)
		spoil(second.List)
		if !equal(x, c.x) || !slices.Equal(l, c.l) || !behind() || !equal(got, want) || e != e2 {
			t.Errorf("case %d: after a change of a result, the arguments are %v, %v, another result %v", i, x, l, got)
		}
		if third, e3 := identity.Update(x, l); !equal(third, want) || e3 != e {
			t.Errorf("case %d: the third result is %v, %v", i, third, e3)
		}
		spoil(x.List)
		clear(l)
		if !equal(got, want) {
			t.Errorf("case %d: after a change of the arguments, the result is %v", i, got)
		}
	}
}

func TestMovesSharesNothing(t *testing.T) {
	for i, c := range updates() {
		now, _ := identity.Update(state(10, c.x), items(c.l))
		a := api.Identities{Next: 10, List: roomy(list(c.x), spoilt)}
		b := api.Identities{Next: now.Next, List: roomy(now.List, spoilt)}
		got := identity.Moves(a, b)
		want := slices.Clone(got)
		spoil(identity.Moves(a, b))
		if !equal(a, state(10, c.x)) || !equal(b, now) || !slices.Equal(got, want) {
			t.Errorf("case %d: after a change of a result: %v, %v, %v", i, a, b, got)
		}
		if a.List[:len(a.List)+1][len(a.List)] != spoilt || b.List[:len(b.List)+1][len(b.List)] != spoilt {
			t.Errorf("case %d: what is behind the arguments has changed", i)
		}
		spoil(a.List)
		spoil(b.List)
		if !slices.Equal(got, want) {
			t.Errorf("case %d: after a change of the arguments: %v", i, got)
		}
	}
}

func TestCheckAndFindChangeNothing(t *testing.T) {
	for i, x := range append(notValid(), state(9, "1:m.a=s 5:m.b=t")) {
		arg := api.Identities{Next: x.Next, List: roomy(x.List, spoilt)}
		first := identity.Check(arg)
		id, ok := identity.Find(arg, "m", "a")
		again, ok2 := identity.Find(arg, "m", "a")
		if !equal(arg, x) || arg.List[:len(arg.List)+1][len(arg.List)] != spoilt || identity.Check(arg) != first || id != again || ok != ok2 {
			t.Errorf("case %d: %v", i, arg)
		}
	}
}
