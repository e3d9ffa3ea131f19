package identity_test

import (
	"slices"
	"testing"

	"recompile/api"
	"recompile/identity"
)

// has reports whether an item of a list has the Module and Name of an item.
func has(l []api.Item, item api.Item) bool {
	return slices.ContainsFunc(l, func(i api.Item) bool { return i.Module == item.Module && i.Name == item.Name })
}

// without returns the items of a list whose Modules and Names are not in others, and that have a Shape.
func without(l, others []api.Item, shape string) []api.Item {
	var out []api.Item
	for _, i := range l {
		if i.Shape == shape && !has(others, i) {
			out = append(out, i)
		}
	}
	return out
}

// idOf returns the ID of an item's Module and Name; 0 if there is none.
func idOf(x api.Identities, item api.Item) int {
	for _, y := range x.List {
		if has([]api.Item{y.Item}, item) {
			return y.ID
		}
	}
	return 0
}

// expected says in another way what Update returns, item by item.
func expected(x api.Identities, l []api.Item) api.Identities {
	out := api.Identities{Next: x.Next}
	old := itemsOf(x.List)
	for _, item := range l {
		id := idOf(x, item)
		gone := without(old, l, item.Shape)
		if id == 0 && len(gone) == 1 && len(without(l, old, item.Shape)) == 1 {
			id = idOf(x, gone[0])
		}
		if id == 0 {
			id = out.Next
			out.Next++
		}
		out.List = append(out.List, api.Identity{ID: id, Item: item})
	}
	slices.SortFunc(out.List, func(a, b api.Identity) int { return a.ID - b.ID })
	return out
}

// choices returns all lists of these items, each of them absent or with one of the shapes.
func choices(l []api.Item, shapes ...string) [][]api.Item {
	out := [][]api.Item{nil}
	for _, item := range l {
		for _, before := range slices.Clone(out) {
			for _, shape := range shapes {
				item.Shape = shape
				out = append(out, append(slices.Clone(before), item))
			}
		}
	}
	return out
}

func TestEveryUpdateOfFewItems(t *testing.T) {
	t.Parallel()
	all := choices(items("m.a m.b n.a n.b"), "s", "t", "")
	for _, old := range all {
		back := slices.Clone(old)
		slices.Reverse(back)
		for _, x := range []api.Identities{counted(9, 1, old), counted(5, 1, back), counted(1<<33, 1<<32, old)} {
			for _, l := range all {
				want := expected(x, l)
				if got, e := identity.Update(x, l); e != api.OK || !equal(got, want) || !identity.Check(got) {
					t.Fatalf("Update of %v with %v: %v, %v, expected %v", x, l, got, e, want)
				}
			}
		}
	}
}

// edited returns items after some accidental changes.
func edited(d *dice, l []api.Item) []api.Item {
	modules, names, shapes := []string{"", "m", "ma", "n"}, []string{"", "a", "aa", "b", "c", "d"}, []string{"s", "t", "u", "v", "w", "x", "y", "z"}
	out := slices.Clone(l)
	for range d.roll(5) {
		if len(out) == 0 || d.roll(3) == 0 {
			out = append(out, api.Item{Module: modules[d.roll(4)], Name: names[d.roll(6)], Shape: shapes[d.roll(8)]})
			continue
		}
		k := d.roll(len(out))
		switch d.roll(5) {
		case 0:
			out = slices.Delete(out, k, k+1)
		case 1:
			out[k].Name = names[d.roll(6)]
		case 2:
			out[k].Module = modules[d.roll(4)]
		case 3:
			out[k].Module, out[k].Name = modules[d.roll(4)], names[d.roll(6)]
		default:
			out[k].Shape = shapes[d.roll(8)]
		}
	}
	out = ordered(out)
	return slices.CompactFunc(out, func(a, b api.Item) bool { return a.Module == b.Module && a.Name == b.Name })
}

// numbers returns the IDs of identities.
func numbers(x api.Identities) []int {
	var out []int
	for _, y := range x.List {
		out = append(out, y.ID)
	}
	return out
}

// checkNumbers tests that all that keeps its name keeps its number, and that new numbers are those from Next on, once each.
func checkNumbers(t *testing.T, x, got api.Identities) {
	t.Helper()
	next := x.Next
	for _, y := range got.List {
		if id := idOf(x, y.Item); id != 0 && id != y.ID {
			t.Errorf("%v had the number %d", y, id)
		}
		if slices.Contains(numbers(x), y.ID) {
			continue
		}
		if y.ID != next {
			t.Errorf("%v has not the number %d", y, next)
		}
		next++
	}
	if got.Next != next {
		t.Errorf("Next is %d, expected %d", got.Next, next)
	}
}

func TestManyUpdates(t *testing.T) {
	t.Parallel()
	d := &dice{5}
	come, gone, moved := 0, 0, 0
	for range 40 {
		x := api.Identities{Next: 1}
		given := map[int]bool{}
		for range 100 {
			l := edited(d, itemsOf(x.List))
			got, e := identity.Update(x, l)
			if want := expected(x, l); e != api.OK || !equal(got, want) || !identity.Check(got) {
				t.Fatalf("Update of %v with %v: %v, %v, expected %v", x, l, got, e, want)
			}
			checkNumbers(t, x, got)
			for _, id := range numbers(got) {
				if given[id] && !slices.Contains(numbers(x), id) {
					t.Fatalf("the number %d is given again", id)
				}
				given[id] = true
			}
			if again, e := identity.Update(got, l); e != api.OK || !equal(again, got) || len(identity.Moves(got, again)) > 0 {
				t.Fatalf("Update of %v with its items: %v, %v", got, again, e)
			}
			come, gone, moved = come+got.Next-x.Next, gone+len(x.List)+got.Next-x.Next-len(got.List), moved+len(identity.Moves(x, got))
			x = got
		}
	}
	if come < 1000 || gone < 1000 || moved < 500 {
		t.Errorf("only %d come, %d go, %d move", come, gone, moved)
	}
}

// thinned returns what is left of identities when some are taken out.
func thinned(d *dice, x api.Identities) api.Identities {
	out := api.Identities{Next: x.Next}
	for _, y := range x.List {
		if d.roll(3) > 0 {
			out.List = append(out.List, y)
		}
	}
	return out
}

func TestWhatIsRenamedOrMovedKeepsItsNumber(t *testing.T) {
	d := &dice{6}
	all := state(30, "2:m.a=s 3:m.b=t 5:n.a=u 11:n.b=v 12:n.c=w 29:o.a=x")
	for range 2000 {
		x := thinned(d, all)
		now := clone(x)
		for i := range now.List {
			k := string(rune('a' + i))
			switch y := &now.List[i].Item; d.roll(4) {
			case 0:
				y.Name = "z" + k
			case 1:
				y.Module = "z" + k
			case 2:
				y.Module, y.Name = "a"+k, y.Module
			}
		}
		l := ordered(append(itemsOf(now.List), items("y.y=y z.y=y")...))
		now.Next += 2
		now.List = append(now.List, list("30:y.y=y 31:z.y=y")...)
		if got, e := identity.Update(x, l); e != api.OK || !equal(got, now) {
			t.Errorf("Update of %v with %v: %v, %v", x, l, got, e)
		}
	}
}

func TestManyItemsAtOnce(t *testing.T) {
	const n = api.MaxNodes / 4
	x := api.Identities{Next: 1}
	for _, part := range []struct{ module, shape string }{{"goes", "g"}, {"moves", "m"}, {"stays", "s"}, {"swaps", "w"}} {
		for i, item := range many(n, part.module, "") {
			item.Shape = part.shape + item.Name
			if part.module == "goes" && i%2 == 0 {
				item.Shape = "twice"
			}
			x.List = append(x.List, api.Identity{ID: x.Next, Item: item})
			x.Next++
		}
	}
	want := api.Identities{Next: x.Next, List: slices.Clone(x.List[n:])}
	for i := range n {
		want.List[i].Item.Module = "a"
		want.List[i+2*n].Item.Shape = x.List[4*n-1-i].Item.Shape
	}
	for i, item := range many(n, "z", "twice") {
		want.List = append(want.List, api.Identity{ID: x.Next + i, Item: item})
		want.Next++
	}
	for range 3 {
		if got, e := identity.Update(x, ordered(itemsOf(want.List))); e != api.OK || !equal(got, want) || !slices.Equal(identity.Moves(x, got), want.List[:n]) {
			t.Errorf("Update of %d identities with %d items: %v", len(x.List), len(want.List), e)
		}
	}
}
