package identity_test

import (
	"testing"

	"recompile/api"
	"recompile/identity"
)

// updates are cases of Update, each with what it starts from: the Next is always 10.
func updates() []struct{ x, l, want string } {
	return []struct{ x, l, want string }{
		// Items stay, go, come and change.
		{"", "", ""},
		{"1:m.a=s 2:m.b=t", "m.a=s m.b=t", "1:m.a=s 2:m.b=t"},
		{"1:m.a=s 2:m.b=t", "m.a=s", "1:m.a=s"},
		{"1:m.a=s 2:m.b=t", "", ""},
		{"1:m.a=s 2:m.b=t", "m.a=s m.b=t m.c=u n.a=v", "1:m.a=s 2:m.b=t 10:m.c=u 11:n.a=v"},
		{"1:m.a=s 2:m.b=t", "m.a=u m.b=t", "1:m.a=u 2:m.b=t"},
		{"1:m.a=s 2:m.b=t", "m.a=t m.b=s", "1:m.a=t 2:m.b=s"},
		{"1:m.a=s 2:m.b=t", "m.a=u n.z=v", "1:m.a=u 10:n.z=v"},
		// They are renamed, moved, or both.
		{"4:m.a=s", "m.b=s", "4:m.b=s"},
		{"4:m.a=s", "n.a=s", "4:n.a=s"},
		{"4:m.a=s", "n.b=s", "4:n.b=s"},
		{"4:m.a=", "n.b=", "4:n.b="},
		{"4:m.a=s", "m.b=t", "10:m.b=t"},
		{"4:m.a=s 6:m.b=t 7:n.a=u", "m.c=s n.b=u o.b=t", "4:m.c=s 6:o.b=t 7:n.b=u"},
		{"4:m.a=s 6:m.b=t", "m.b=t m.c=s", "4:m.c=s 6:m.b=t"},
		{"4:m.ab=s", "ma.b=s", "4:ma.b=s"},
		{"4:m.ab=s 5:ma.b=t", "m.ab=u ma.b=s", "4:m.ab=u 5:ma.b=s"},
		// Names come before shapes.
		{"4:m.a=s 6:m.b=t", "m.a=t m.c=s", "4:m.a=t 10:m.c=s"},
		{"4:m.a=s", "m.a=t m.b=s", "4:m.a=t 10:m.b=s"},
		{"4:m.a=s 6:m.b=t", "m.b=s m.c=t", "6:m.b=s 10:m.c=t"},
		{"4:m.b=s 6:m.c=t", "m.a=s m.b=t", "4:m.b=t 10:m.a=s"},
		// A shape occurs twice or more among the other items, among the other identities, or among both.
		{"4:m.a=s", "m.b=s m.c=s", "10:m.b=s 11:m.c=s"},
		{"4:m.a=s", "m.b=s m.c=s m.d=s", "10:m.b=s 11:m.c=s 12:m.d=s"},
		{"4:m.a=s 6:m.b=s", "m.c=s", "10:m.c=s"},
		{"4:m.a=s 5:m.b=s 6:m.c=s", "m.d=s", "10:m.d=s"},
		{"4:m.a=s 6:m.b=s", "m.c=s m.d=s", "10:m.c=s 11:m.d=s"},
		{"4:m.a=s 5:m.b=s 6:m.c=s", "m.d=s m.e=s m.f=s", "10:m.d=s 11:m.e=s 12:m.f=s"},
		{"4:m.a=s 5:m.b=t 6:m.c=s", "m.d=s m.e=t", "5:m.e=t 10:m.d=s"},
		{"4:m.a=s 5:m.b=t", "m.d=s m.e=s m.f=t", "5:m.f=t 10:m.d=s 11:m.e=s"},
		// An item that stays, or its identity, has the shape, too.
		{"4:m.a=s 6:m.b=s", "m.a=s m.c=s", "4:m.a=s 6:m.c=s"},
		{"4:m.a=s 5:m.b=s 6:m.c=s", "m.a=s m.b=s m.d=s", "4:m.a=s 5:m.b=s 6:m.d=s"},
		{"4:m.a=t 6:m.b=s", "m.a=s m.c=s", "4:m.a=s 6:m.c=s"},
		{"4:m.a=s 6:m.b=s", "m.a=t m.c=s", "4:m.a=t 6:m.c=s"},
		{"4:m.a=s 6:m.b=t", "m.a=s m.c=s", "4:m.a=s 10:m.c=s"},
		{"4:m.a=s", "m.a=s m.b=s", "4:m.a=s 10:m.b=s"},
		{"4:m.a=s 5:m.b=s 6:m.c=s", "m.a=s m.d=s", "4:m.a=s 10:m.d=s"},
		{"4:m.a=s 6:m.b=s", "m.a=s m.c=s m.d=s", "4:m.a=s 10:m.c=s 11:m.d=s"},
		// Numbers of new items are in the order of the items, those of others in between or not.
		{"2:m.b=s 3:m.d=t", "m.a=u m.b=s m.c=v m.d=t m.e=w", "2:m.b=s 3:m.d=t 10:m.a=u 11:m.c=v 12:m.e=w"},
		{"2:m.c=s 3:m.a=t", "m.a=t m.b=v m.c=s", "2:m.c=s 3:m.a=t 10:m.b=v"},
		{"2:z.z=s 3:y.y=t", "a.b=u b.a=t c.c=v d.d=s", "2:d.d=s 3:b.a=t 10:a.b=u 11:c.c=v"},
		{"9:m.a=s", "m.a=s m.b=t", "9:m.a=s 10:m.b=t"},
		{"1:m.z=s", "m.a=t m.b=t n.a=t", "10:m.a=t 11:m.b=t 12:n.a=t"},
	}
}

// newOnes returns how many identities have a number from 10 on.
func newOnes(l []api.Identity) int {
	count := 0
	for _, y := range l {
		if y.ID >= 10 {
			count++
		}
	}
	return count
}

func TestUpdate(t *testing.T) {
	for _, c := range updates() {
		want := state(10, c.want)
		want.Next += newOnes(want.List)
		if got, e := identity.Update(state(10, c.x), items(c.l)); e != api.OK || !equal(got, want) {
			t.Errorf("Update of %q with %q: %v, %v", c.x, c.l, got, e)
		}
	}
}

func TestUpdateOfNothing(t *testing.T) {
	got, e := identity.Update(api.Identities{Next: 1}, items("m.a=s m.b=s"))
	if e != api.OK || !equal(got, state(3, "1:m.a=s 2:m.b=s")) {
		t.Errorf("Update of nothing: %v, %v", got, e)
	}
	got, e = identity.Update(api.Identities{Next: 1, List: []api.Identity{}}, []api.Item{})
	if e != api.OK || !equal(got, api.Identities{Next: 1}) {
		t.Errorf("Update of nothing with nothing: %v, %v", got, e)
	}
}

func TestUpdateComparesBytes(t *testing.T) {
	x := api.Identities{Next: 4, List: []api.Identity{
		{ID: 1, Item: api.Item{Module: "m", Name: "\x00a", Shape: "\xff"}},
		{ID: 2, Item: api.Item{Module: "m\x00", Name: "a", Shape: "\xfe"}},
		{ID: 3, Item: api.Item{Module: "n", Name: "a", Shape: "S"}},
	}}
	l := []api.Item{{Module: "m", Name: "b", Shape: "\xfe"}, {Module: "m\x00", Name: "b", Shape: "\xff"}, {Module: "n", Name: "b", Shape: "s"}}
	want := api.Identities{Next: 5, List: []api.Identity{{ID: 1, Item: l[1]}, {ID: 2, Item: l[0]}, {ID: 4, Item: l[2]}}}
	if got, e := identity.Update(x, l); e != api.OK || !equal(got, want) {
		t.Errorf("%v, %v", got, e)
	}
}
