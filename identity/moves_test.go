package identity_test

import (
	"math"
	"slices"
	"testing"

	"recompile/api"
	"recompile/identity"
)

func TestMoves(t *testing.T) {
	for _, c := range []struct{ old, now, want string }{
		{"", "", ""},
		{"1:m.a=s", "", ""},
		{"", "1:m.a=s", ""},
		// Another Module, another Name, both; another Shape alone; the ID alone.
		{"1:m.a=s", "1:m.a=s", ""},
		{"1:m.a=s", "1:n.a=s", "1:n.a=s"},
		{"1:m.a=s", "1:m.b=s", "1:m.b=s"},
		{"1:m.a=s", "1:n.b=s", "1:n.b=s"},
		{"1:m.a=s", "1:m.a=t", ""},
		{"1:m.a=s", "1:m.b=t", "1:m.b=t"},
		{"1:m.a=s", "2:m.a=s", ""},
		{"1:m.a=s", "2:m.b=s", ""},
		{"1:m.ab=s", "1:ma.b=s", "1:ma.b=s"},
		{"1:m.=s", "1:.m=s", "1:.m=s"},
		{"1:m.a=s", "1:M.a=s", "1:M.a=s"},
		// An ID in one of them alone, beside others.
		{"1:m.a=s 2:m.b=s 3:m.c=s", "2:m.d=s 4:m.a=s", "2:m.d=s"},
		{"2:m.b=s", "1:m.a=s 2:m.c=s 3:m.b=s", "2:m.c=s"},
		// Several, ascending.
		{"1:m.a=s 2:m.b=s 3:m.c=s", "1:m.c=s 2:m.b=s 3:m.a=s", "1:m.c=s 3:m.a=s"},
		{"3:m.c=s 2:m.b=s 1:m.a=s", "1:m.x=s 2:m.y=t 3:m.z=u", "1:m.x=s 2:m.y=t 3:m.z=u"},
		{"5:m.a=s 9:m.b=s", "5:n.b=s 9:n.a=s", "5:n.b=s 9:n.a=s"},
		// An ID that is in old twice: the first one counts.
		{"1:m.a=s 1:m.b=s", "1:m.a=s", ""},
		{"1:m.a=s 1:m.b=s", "1:m.b=s", "1:m.b=s"},
		{"1:m.a=s 1:m.b=s", "1:m.c=s", "1:m.c=s"},
		{"1:m.a=s 1:m.a=t", "1:m.a=u", ""},
		{"1:m.a=s 1:m.b=s 1:m.a=s", "1:m.a=s", ""},
		{"1:m.b=s 1:m.a=s 1:m.a=s", "1:m.a=s", "1:m.a=s"},
		{"2:m.a=s 1:m.b=s 2:m.c=s 1:m.d=s", "1:m.b=s 2:m.c=s", "2:m.c=s"},
		{"2:m.a=s 1:m.b=s 2:m.c=s 1:m.d=s", "1:m.d=s 2:m.a=s", "1:m.d=s"},
		// An old that is not valid in other ways.
		{"0:m.a=s -1:m.b=s 99:m.c=s", "1:m.a=s 2:m.b=s", ""},
		{"2:m.a=s 1:m.a=s", "1:m.a=t 2:m.b=s", "2:m.b=s"},
	} {
		for _, next := range []int{10, 0, -1, 1, math.MaxInt, math.MinInt} {
			if got := identity.Moves(state(next, c.old), state(10, c.now)); !slices.Equal(got, list(c.want)) {
				t.Errorf("Moves from %q to %q: %v", c.old, c.now, got)
			}
		}
	}
}

// lists returns all lists of at most n of the parts.
func lists[T any](n int, parts ...T) [][]T {
	out := [][]T{nil}
	for from := 0; n > 0; n-- {
		to := len(out)
		for _, l := range out[from:to] {
			for _, p := range parts {
				out = append(out, append(slices.Clone(l), p))
			}
		}
		from = to
	}
	return out
}

// movedTo says in another way whether Moves returns an identity.
func movedTo(old []api.Identity, y api.Identity) bool {
	k := slices.IndexFunc(old, func(o api.Identity) bool { return o.ID == y.ID })
	return k >= 0 && (old[k].Item.Module != y.Item.Module || old[k].Item.Name != y.Item.Name)
}

func TestEveryMovesOfFewIdentities(t *testing.T) {
	parts := list("1:m.a=s 1:m.a=t 1:m.b=s 1:n.a=s 2:m.a=s 2:m.b=t 2:n.a=s 3:m.b=s")
	for _, now := range lists(3, parts...) {
		x := api.Identities{Next: 4, List: now}
		if !identity.Check(x) {
			continue
		}
		for _, old := range lists(3, parts...) {
			var want []api.Identity
			for _, y := range now {
				if movedTo(old, y) {
					want = append(want, y)
				}
			}
			if got := identity.Moves(api.Identities{List: old}, x); !slices.Equal(got, want) {
				t.Fatalf("Moves from %v to %v: %v, expected %v", old, now, got, want)
			}
		}
	}
}

func TestMovesOfUpdates(t *testing.T) {
	for _, c := range updates() {
		x := state(10, c.x)
		now, _ := identity.Update(x, items(c.l))
		var want []api.Identity
		for _, y := range now.List {
			if !has(itemsOf(x.List), y.Item) && y.ID < 10 {
				want = append(want, y)
			}
		}
		if got := identity.Moves(x, now); !slices.Equal(got, want) {
			t.Errorf("Moves after Update of %q with %q: %v", c.x, c.l, got)
		}
		if got := identity.Moves(now, now); len(got) != 0 {
			t.Errorf("Moves from %q to itself: %v", c.want, got)
		}
	}
}

func TestMovesToWhatIsNotValid(t *testing.T) {
	for _, now := range notValid() {
		for _, old := range notValid() {
			before, beforeNow := clone(old), clone(now)
			identity.Moves(old, now)
			if !equal(old, before) || !equal(now, beforeNow) {
				t.Error("Moves changes what is not valid")
			}
		}
	}
}
