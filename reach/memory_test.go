package reach_test

import (
	"fmt"
	"slices"
	"testing"

	"recompile/api"
	"recompile/reach"
)

// roomy returns a list with an element behind it, which an append to the list would write over.
func roomy[T any](l []T, behind T) []T {
	return append(append(make([]T, 0, len(l)+4), l...), behind)[:len(l)]
}

// spoil writes over a list and all that it has room for.
func spoil[T any](l []T, over T) {
	l = l[:cap(l)]
	for i := range l {
		l[i] = over
	}
}

// roomyFaces returns faces with lists that nothing else has, with room behind each.
func roomyFaces(l []api.Face) []api.Face {
	var out []api.Face
	for _, f := range l {
		out = append(out, api.Face{Module: f.Module, Own: roomy(f.Own, "behind"), Pub: roomy(f.Pub, "behind")})
	}
	return roomy(out, api.Face{Module: "behind"})
}

// showFaces writes faces with what their lists have room for.
func showFaces(l []api.Face) string {
	s := ""
	for _, f := range l[:cap(l)] {
		s += fmt.Sprintf("%q %q %q;", f.Module, f.Own[:cap(f.Own)], f.Pub[:cap(f.Pub)])
	}
	return s
}

// copied returns lists that share no memory with l.
func copied(l [][]string) [][]string {
	var out [][]string
	for _, x := range l {
		out = append(out, slices.Clone(x))
	}
	return out
}

func checkAllShares(t *testing.T, plain []api.Face) {
	t.Helper()
	l := roomyFaces(plain)
	before := showFaces(l)
	got, other := reach.All(l), reach.All(l)
	want := copied(got)
	for i := range other {
		spoil(other[i], "spoilt")
		if !equal(other[i+1:], want[i+1:]) {
			t.Fatalf("All of %s: the list %d shares memory with another one", show(plain), i)
		}
	}
	spoil(other, []string{"spoilt"})
	if showFaces(l) != before {
		t.Fatalf("All of %s: what was given has changed", show(plain))
	}
	for _, f := range l {
		spoil(f.Own, "spoilt")
		spoil(f.Pub, "spoilt")
	}
	spoil(l, api.Face{Module: "spoilt"})
	if !equal(got, want) {
		t.Fatalf("All of %s: the result shares memory with another result or with the faces", show(plain))
	}
}

func TestAllSharesNothing(t *testing.T) {
	for _, text := range []string{"f:", "f: g", "f: g h", "f: h g g", "f: g; g: f", "f: g; g: h; h:", "f: i h g; g: i h; h: i; i: x; f: f", "f: g; g: h f; h: h f; e: f"} {
		checkAllShares(t, faces(text))
	}
	everyFaces([]string{"a", "b", "c"}, []string{"c", "b", "a"}, func(l []api.Face) { checkAllShares(t, l) })
	d := &dice{171}
	for range 3000 {
		l := d.faces(9, 1+d.roll(len(few)), 5)
		for i := range l {
			l[i].Pub = d.some(few, 3)
		}
		checkAllShares(t, l)
	}
}

func TestStepSharesNothing(t *testing.T) {
	for _, c := range [][2]string{{"", ""}, {"f", ""}, {"", "f"}, {"f g h", ""}, {"", "f g h"}, {"h g g f", "f;;i h"}, {"", "f g;"}, {"f", "f;f"}, {"-", "-"}, {"", ";h g f;"}} {
		calls, others := roomy(words(c[0]), "behind"), lists(c[1])
		for i, l := range others {
			others[i] = roomy(l, "behind")
		}
		others = roomy(others, []string{"behind"})
		show := func() string {
			s := fmt.Sprintf("%q", calls[:cap(calls)])
			for _, l := range others[:cap(others)] {
				s += fmt.Sprintf(" %q", l[:cap(l)])
			}
			return s
		}
		before := show()
		got := reach.Step(calls, others)
		want := slices.Clone(got)
		spoil(reach.Step(calls, others), "spoilt")
		if show() != before {
			t.Errorf("Step of %q with %q: what was given has changed", c[0], c[1])
		}
		spoil(calls, "spoilt")
		for _, l := range others {
			spoil(l, "spoilt")
		}
		spoil(others, []string{"spoilt"})
		if !slices.Equal(got, want) {
			t.Errorf("Step of %q with %q: the result shares memory with another result or with the arguments", c[0], c[1])
		}
	}
}

func TestCallsSharesNothing(t *testing.T) {
	for _, text := range []string{"", "f", "f g h", "h g g f", "- f - f"} {
		c := calling(words(text)...)
		for i := range c.Ops {
			c.Ops[i].List = roomy([]int{i, 7}, 8)
		}
		c.Ops = roomy(c.Ops, api.Op{Kind: api.OpCall, Sym: "behind"})
		show := func() string {
			s := fmt.Sprintf("%+v", c)
			for _, o := range c.Ops[:cap(c.Ops)] {
				s += fmt.Sprintf("%+v %d", o, o.List[:cap(o.List)])
			}
			return s
		}
		before := show()
		got := reach.Calls(c)
		want := slices.Clone(got)
		spoil(reach.Calls(c), "spoilt")
		if show() != before {
			t.Errorf("Calls of %q: what was given has changed", text)
		}
		spoil(c.Ops, api.Op{Kind: api.OpCall, Sym: "spoilt"})
		if !slices.Equal(got, want) {
			t.Errorf("Calls of %q: the result shares memory with another result or with the code", text)
		}
	}
}

func TestRecursiveChangesNothing(t *testing.T) {
	for _, text := range []string{"", "f", "h g f", "g g - f"} {
		l := roomy(words(text), "behind")
		reach.Recursive("f", l)
		reach.Recursive("i", l)
		if !slices.Equal(l, words(text)) || l[:len(l)+1][len(l)] != "behind" {
			t.Errorf("%q became %q", text, l)
		}
	}
	if reach.Recursive("behind", roomy(words("f g"), "behind")) {
		t.Error("a string behind a list is found in it")
	}
}

// Lists that are parts of others are taken like any others.
func TestListsThatShareMemory(t *testing.T) {
	list := words("g f h g")
	checkStep(t, list[:2], [][]string{list[1:2], list[:0], list[3:]}, words("f g"))
	checkStep(t, list[2:3], [][]string{list[:1], list[:1]}, words("g h"))
	checkAll(t, []api.Face{{Module: "f", Own: list[:1]}, {Module: "g", Own: list[2:3], Pub: list}, {Module: "h", Own: list[1:]}, {Module: "i", Own: list[3:]}}, lists("f g h; f g h; f g h; f g h"))
	if !slices.Equal(list, words("g f h g")) {
		t.Errorf("the list became %q", list)
	}
}

// An empty list is like none.
func TestFacesWithEmptyLists(t *testing.T) {
	d := &dice{172}
	for range 2000 {
		l := d.faces(8, 1+d.roll(len(few)), 2)
		want := reach.All(l)
		for i := range l {
			if len(l[i].Own) == 0 {
				l[i].Own = []string{}
			}
			l[i].Pub = []string{}
		}
		checkAll(t, l, want)
	}
}

// No state is kept: a call returns the same after others.
func TestCallsDoNotDependOnOthers(t *testing.T) {
	d := &dice{173}
	for range 500 {
		l := d.faces(10, len(few), 4)
		want := reach.All(l)
		reach.All(d.faces(10, len(few), 4))
		reach.Step(d.some(few, 5), [][]string{d.some(few, 5)})
		reach.Calls(calling(d.some(few, 5)...))
		checkAll(t, l, want)
	}
}
