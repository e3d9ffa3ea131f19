package identity_test

import (
	"math"
	"slices"
	"testing"

	"recompile/api"
	"recompile/identity"
)

// notValid returns identities that are not valid, each for another reason.
func notValid() []api.Identities {
	l := []api.Identities{
		{}, {Next: -1}, {Next: math.MinInt}, {Next: maxNext + 1}, {Next: math.MaxInt},
		withIDs(0, 1), withIDs(maxNext+1, 1), withIDs(1, 1), withIDs(3, 3), withIDs(3, 4), withIDs(3, 0), withIDs(3, -1), withIDs(9, 1, 1), withIDs(9, 2, 1),
		state(9, "1:m.a=s 2:m.a=s"), state(9, "1:m.a=s 2:m.b=s 5:m.a=t"),
		counted(maxNext, 1, many(api.MaxNodes+1, "m", "s")),
	}
	return l
}

// badItems are items that do not ascend strictly by Module and then Name.
func badItems() [][]api.Item {
	l := [][]api.Item{
		{{Module: "é"}, {Module: "\x80"}},
		{{Module: "m", Name: "é"}, {Module: "m", Name: "\x80"}},
		{{Module: "m\x00"}, {Module: "m"}},
		append(many(api.MaxNodes, "m", "s"), many(1, "m", "t")...),
		append(many(api.MaxNodes, "m", "s"), many(1, "l", "s")...),
	}
	for _, s := range []string{
		"m.a=s m.a=s", "m.a=s m.a=t", "m.b=s m.a=s", "n.a=s m.a=s", "n.a=s m.b=s", "n.b=s m.a=s", "m.a=s .=s", "m.a=s m.=s",
		"m.a=s m.b=s m.b=t", "m.a=s m.b=s m.a=s", "m.a=s m.c=s m.b=s", "m.a=s o.a=s n.a=s", "m.b=s m.a=s m.c=s", "n.a=s m.b=s o.a=s",
		"m.a=s n.b=s n.a=s", "m.a=s a.m=s", "m.a=s _.a=s", "_.a=s M.a=s", "m.b=s m.B=s", "m.9=s m.10=s", "m.b=s m.aa=s", "ma.a=s m.z=s",
	} {
		l = append(l, items(s))
	}
	return l
}

// goodItems are items that ascend.
func goodItems() [][]api.Item {
	l := [][]api.Item{
		nil, {},
		{{Module: "\x80"}, {Module: "é"}, {Module: "\xff"}},
		{{Module: "m", Name: "\x00"}, {Module: "m", Name: "\x80"}, {Module: "m", Name: "é"}, {Module: "m", Name: "\xff"}},
		{{Module: "m", Name: "b"}, {Module: "m\x00", Name: "a"}},
	}
	for _, s := range []string{
		".=s", ".=s .a=s a.=s a.a=s", "m.b=t n.a=s", "m.b=u n.b=t o.a=s", "m.z=s ma.a=s", "m.10=s m.9=s", "m.aa=s m.b=s", "m.a=s m.aa=s m.ab=s m.b=s",
		"M.z=s _.y=s m.x=s", "m.M=s m._=s m.m=s", "a.a=s a.b=s a.c=s b.a=s b.b=s",
	} {
		l = append(l, items(s))
	}
	return l
}

// refused tests that Update returns an error, and x as it was.
func refused(t *testing.T, x api.Identities, l []api.Item, want api.Errno) {
	t.Helper()
	before, beforeItems := clone(x), slices.Clone(l)
	got, e := identity.Update(x, l)
	if e != want || !equal(got, before) {
		t.Errorf("Update of %d identities, Next %d, with %d items: %v, expected %v", len(x.List), x.Next, len(l), e, want)
	}
	if !equal(x, before) || !slices.Equal(l, beforeItems) {
		t.Errorf("Update of %d identities, Next %d, with %d items changes them", len(x.List), x.Next, len(l))
	}
}

func TestUpdateOfWhatIsNotValid(t *testing.T) {
	tooMany := many(api.MaxNodes+1, "m", "s")
	for _, x := range notValid() {
		if identity.Check(x) {
			t.Errorf("%d identities, Next %d, are valid", len(x.List), x.Next)
		}
		for _, l := range append(badItems(), nil, items("m.a=s"), itemsOf(x.List), tooMany) {
			refused(t, x, l, api.ErrInvalid)
		}
	}
}

func TestUpdateWithItemsThatDoNotAscend(t *testing.T) {
	for _, x := range []api.Identities{{Next: 1}, state(9, "1:m.a=s 2:m.b=t"), {Next: maxNext}, withIDs(maxNext, 1, maxNext-1), counted(maxNext, 1, many(api.MaxNodes, "m", "s"))} {
		for _, l := range badItems() {
			refused(t, x, l, api.ErrInvalid)
		}
	}
}

func TestUpdateWithItemsThatAscend(t *testing.T) {
	for _, l := range goodItems() {
		if got, e := identity.Update(api.Identities{Next: 1}, l); e != api.OK || !equal(got, counted(1+len(l), 1, l)) {
			t.Errorf("Update of nothing with %v: %v, %v", l, got, e)
		}
		x := state(9, "3:m.a=x 5:o.a=y")
		if got, e := identity.Update(x, l); e != api.OK || !identity.Check(got) || len(got.List) != len(l) {
			t.Errorf("Update with %v: %v, %v", l, got, e)
		}
	}
}

func TestUpdateNearMaxNodes(t *testing.T) {
	full := counted(api.MaxNodes+1, 1, many(api.MaxNodes, "m", "s"))
	for _, x := range []api.Identities{{Next: 1}, state(9, "1:m.a=s 2:m.b=t"), full} {
		for _, over := range []int{1, 2, api.MaxNodes} {
			refused(t, x, many(api.MaxNodes+over, "m", "s"), api.ErrLimit)
			refused(t, x, many(api.MaxNodes+over, "n", "t"), api.ErrLimit)
		}
	}
	for n := api.MaxNodes - 1; n <= api.MaxNodes; n++ {
		l := many(n, "n", "s")
		if got, e := identity.Update(api.Identities{Next: 7}, l); e != api.OK || !equal(got, counted(7+n, 7, l)) {
			t.Errorf("Update of nothing with %d items: %v", n, e)
		}
		if got, e := identity.Update(full, l); e != api.OK || !equal(got, counted(full.Next+n, full.Next, l)) {
			t.Errorf("Update of MaxNodes identities with %d new items: %v", n, e)
		}
		if got, e := identity.Update(full, many(n, "m", "s")); e != api.OK || !equal(got, counted(full.Next, 1, many(n, "m", "s"))) {
			t.Errorf("Update of MaxNodes identities with %d items of these: %v", n, e)
		}
	}
	moved := counted(full.Next, 1, many(api.MaxNodes, "m", "s"))
	moved.List[api.MaxNodes-1].Item.Name = "moved"
	if got, e := identity.Update(full, itemsOf(moved.List)); e != api.OK || !equal(got, moved) {
		t.Errorf("Update of MaxNodes identities with one that is renamed: %v", e)
	}
	refused(t, full, append(itemsOf(moved.List), items("n.a=s")...), api.ErrLimit)
	refused(t, full, append(itemsOf(full.List), items("n.a=s")...), api.ErrLimit)
}

func TestUpdateNearTheGreatestNext(t *testing.T) {
	old := "1:m.a=s 2:m.b=t"
	for below := range 4 {
		x := state(maxNext-below, old)
		for come := range 6 {
			l := append(items("m.a=s m.c=t"), many(come, "n", "u")...)
			if come > below {
				refused(t, x, l, api.ErrLimit)
				continue
			}
			want := api.Identities{Next: x.Next + come, List: list("1:m.a=s 2:m.c=t")}
			want.List = append(want.List, counted(0, x.Next, l[2:]).List...)
			if got, e := identity.Update(x, l); e != api.OK || !equal(got, want) || !identity.Check(got) {
				t.Errorf("Update with Next %d and %d new items: %v, %v", x.Next, come, got, e)
			}
		}
	}
	x := state(maxNext, "3:m.a=s 1099511627775:m.b=t")
	for _, c := range []struct{ l, want string }{
		{"", ""}, {"m.a=s m.b=t", "3:m.a=s 1099511627775:m.b=t"}, {"a.a=t b.b=s", "3:b.b=s 1099511627775:a.a=t"}, {"m.b=s", "1099511627775:m.b=s"},
	} {
		if got, e := identity.Update(x, items(c.l)); e != api.OK || !equal(got, state(maxNext, c.want)) {
			t.Errorf("Update with the greatest Next and %q: %v, %v", c.l, got, e)
		}
	}
	refused(t, x, items("m.a=s m.b=t m.c=u"), api.ErrLimit)
	refused(t, x, items("m.c=u"), api.ErrLimit)
	refused(t, api.Identities{Next: maxNext}, items("m.a=s"), api.ErrLimit)
	refused(t, api.Identities{Next: maxNext - api.MaxNodes + 1}, many(api.MaxNodes, "m", "s"), api.ErrLimit)
	l := many(api.MaxNodes, "m", "s")
	if got, e := identity.Update(api.Identities{Next: maxNext - api.MaxNodes}, l); e != api.OK || !equal(got, counted(maxNext, maxNext-api.MaxNodes, l)) {
		t.Errorf("Update with MaxNodes items up to the greatest Next: %v", e)
	}
}
