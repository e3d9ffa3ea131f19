package identity_test

import (
	"math"
	"testing"

	"recompile/api"
	"recompile/identity"
)

func TestCheckOfNext(t *testing.T) {
	for next, want := range map[int]bool{
		math.MinInt: false, -maxNext: false, -1: false, 0: false, 1: true, 2: true, api.MaxNodes + 2: true,
		math.MaxInt32: true, maxNext - 1: true, maxNext: true, maxNext + 1: false, 2 * maxNext: false, math.MaxInt: false,
	} {
		if got := identity.Check(api.Identities{Next: next}); got != want {
			t.Errorf("Next %d alone: %v", next, got)
		}
		if got := identity.Check(withIDs(next, 1)); got != (want && next > 1) {
			t.Errorf("Next %d with the ID 1: %v", next, got)
		}
	}
}

func TestCheckOfIDs(t *testing.T) {
	for _, c := range []struct {
		next int
		ids  []int
		want bool
	}{
		{1, nil, true},
		{2, []int{1}, true},
		{4, []int{1, 2, 3}, true},
		{9, []int{1, 5, 8}, true},
		{9, []int{8}, true},
		{9, []int{7, 8}, true},
		{maxNext, []int{1, maxNext - 2, maxNext - 1}, true},
		{1, []int{1}, false},
		{1, []int{0}, false},
		{2, []int{1, 2}, false},
		{4, []int{1, 2, 4}, false},
		{4, []int{1, 2, 5}, false},
		{4, []int{4}, false},
		{4, []int{5, 6}, false},
		{9, []int{1, 9, 8}, false},
		{9, []int{0}, false},
		{9, []int{0, 1, 2}, false},
		{9, []int{1, 0, 2}, false},
		{9, []int{1, 2, 0}, false},
		{9, []int{-1}, false},
		{9, []int{-1, 2}, false},
		{9, []int{math.MinInt, 2}, false},
		{9, []int{1, math.MaxInt}, false},
		{9, []int{1, 1}, false},
		{9, []int{1, 1, 2}, false},
		{9, []int{1, 2, 2}, false},
		{9, []int{2, 1}, false},
		{9, []int{2, 1, 3}, false},
		{9, []int{1, 3, 2}, false},
		{9, []int{2, 3, 1}, false},
		{maxNext, []int{maxNext}, false},
		{maxNext + 1, []int{maxNext}, false},
		{maxNext + 2, []int{maxNext - 1}, false},
	} {
		if got := identity.Check(withIDs(c.next, c.ids...)); got != c.want {
			t.Errorf("Next %d with the IDs %v: %v", c.next, c.ids, got)
		}
	}
}

func TestCheckOfDefinitions(t *testing.T) {
	for text, want := range map[string]bool{
		"1:m.a=s 2:m.b=s 3:n.a=s":         true,
		"1:n.b=s 2:n.a=s 3:m.c=t 4:m.b=t": true,
		"1:m.a= 2:m.A= 3:M.a= 4:M.A=":     true,
		"1:m.ab= 2:ma.b= 3:mab.= 4:.mab=": true,
		"1:a.m= 2:m.a= 3:a.a= 4:m.m=":     true,
		"1:.= 2:.a= 3:a.=":                true,
		"1:m.a=s 2:m.a=s":                 false,
		"1:m.a=s 2:m.a=t":                 false,
		"1:m.a=s 2:m.b=s 3:m.a=u":         false,
		"1:m.b=s 2:m.a=s 3:m.a=t":         false,
		"1:m.a=s 2:m.a=t 3:m.b=s":         false,
		"1:m.a=s 2:m.a=t 3:m.a=u":         false,
		"1:.=s 2:m.a=s 3:.=t":             false,
	} {
		if got := identity.Check(state(9, text)); got != want {
			t.Errorf("%s: %v", text, got)
		}
	}
	apart := api.Identities{Next: 9}
	for i, names := range [][2]string{{"m\x00", "a"}, {"m", "\x00a"}, {"m", "a\x00"}, {"\xff", "\xfe"}, {"\xfe", "\xff"}, {"\xff", "\xff"}, {"m::a", ""}, {"m", "::a"}} {
		apart.List = append(apart.List, api.Identity{ID: 1 + i, Item: api.Item{Module: names[0], Name: names[1]}})
	}
	if !identity.Check(apart) {
		t.Error("names that only look alike count as the same")
	}
}

func TestCheckOfMaxNodes(t *testing.T) {
	for n, want := range map[int]bool{api.MaxNodes - 1: true, api.MaxNodes: true, api.MaxNodes + 1: false, 2 * api.MaxNodes: false} {
		if got := identity.Check(counted(maxNext, 1, many(n, "m", "s"))); got != want {
			t.Errorf("%d identities: %v", n, got)
		}
	}
	x := counted(api.MaxNodes+1, 1, many(api.MaxNodes, "m", "s"))
	if !identity.Check(x) {
		t.Error("MaxNodes identities with all IDs below Next")
	}
	x.List[api.MaxNodes-1].Item.Name = x.List[0].Item.Name
	if identity.Check(x) {
		t.Error("the first and the last one of MaxNodes identities have the same name")
	}
}

func TestFind(t *testing.T) {
	x := state(30, "3:m.ab=s 7:m.c=t 12:n.c=t 29:.z=s")
	for _, c := range []struct {
		module, name string
		id           int
		ok           bool
	}{
		{"m", "ab", 3, true}, {"m", "c", 7, true}, {"n", "c", 12, true}, {"", "z", 29, true},
		{"n", "ab", 0, false}, {"m", "z", 0, false}, {"m", "", 0, false}, {"", "", 0, false}, {"", "c", 0, false},
		{"ma", "b", 0, false}, {"mab", "", 0, false}, {"", "mab", 0, false}, {"m.a", "b", 0, false}, {"m.ab", "", 0, false},
		{"z", "", 0, false}, {"c", "m", 0, false}, {"ab", "m", 0, false}, {"M", "ab", 0, false}, {"m", "a", 0, false},
		{"m", "abc", 0, false}, {"m", "s", 0, false}, {"m\x00", "ab", 0, false}, {"m", "ab\x00", 0, false},
	} {
		if id, ok := identity.Find(x, c.module, c.name); id != c.id || ok != c.ok {
			t.Errorf("Find %q, %q: %d, %v", c.module, c.name, id, ok)
		}
	}
	if id, ok := identity.Find(api.Identities{Next: 1}, "m", "ab"); id != 0 || ok {
		t.Errorf("Find in nothing: %d, %v", id, ok)
	}
}

func TestFindInWhatIsNotValid(t *testing.T) {
	x := state(0, "9:m.a=s 0:m.b=s -4:m.c=s 5:m.a=t")
	for name, want := range map[string]int{"a": 9, "b": 0, "c": -4} {
		if id, ok := identity.Find(x, "m", name); id != want || !ok {
			t.Errorf("Find m, %q: %d, %v", name, id, ok)
		}
	}
	if id, ok := identity.Find(x, "m", "d"); id != 0 || ok {
		t.Errorf("Find of what is not there: %d, %v", id, ok)
	}
}
