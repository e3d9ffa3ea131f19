package traits_test

import (
	"fmt"
	"slices"
	"sync"
	"testing"

	"recompile/api"
	"recompile/traits"
)

// roomy returns a list with an element behind it, which an append to the list would write over.
func roomy[T any](l []T, behind T) []T {
	return append(append(make([]T, 0, len(l)+4), l...), behind)[:len(l)]
}

// spoil writes over a list and all that it has room for.
func spoil[T any](l []T, over T) {
	l = l[:cap(l)]
	for i := range l {
		l[i] = over
	}
}

func roomyType(t api.Type) api.Type {
	var args []api.Type
	for _, k := range t.Args {
		args = append(args, roomyType(k))
	}
	t.Args = roomy(args, ty("behind"))
	return t
}

func roomyTypes(l []api.Type) []api.Type {
	var out []api.Type
	for _, t := range l {
		out = append(out, roomyType(t))
	}
	return roomy(out, ty("behind"))
}

func roomyTree(t api.Tree) api.Tree {
	var kids []api.Tree
	for _, k := range t.Kids {
		kids = append(kids, roomyTree(k))
	}
	t.Kids = roomy(kids, tree(api.KFn, "behind", 9))
	return t
}

func spoilTypes(l []api.Type) {
	for _, t := range l {
		spoilTypes(t.Args)
	}
	spoil(l, ty("spoilt"))
}

func spoilTree(t api.Tree) {
	for _, k := range t.Kids {
		spoilTree(k)
	}
	spoil(t.Kids, tree(api.KBad, "spoilt", -7))
}

// input is what all functions are called with.
type input struct {
	headers []api.Header
	supers  []api.Super
	goal    api.Goal
	tree    api.Tree
	known   []api.Known
}

// input returns a generated program, and an implementation with the methods of its trait.
func (d *dice) input() input {
	w := d.world()
	w.headers = shuffled(d, w.headers)
	in := input{headers: w.headers, supers: w.supers, goal: w.goal, tree: tree(api.KImpl, "p::S", d.roll(9))}
	for range d.roll(5) {
		m := api.Known{Def: d.pick("a", "b", "c"), Sig: api.Signature{Kind: api.SigMethod, Result: d.typeOf(2, "int", "$Self")}}
		for range d.roll(3) {
			m.Sig.Args = append(m.Sig.Args, d.typeOf(2, "int", "$Self", "$T"))
		}
		in.known = append(in.known, m)
	}
	for range d.roll(5) {
		in.tree.Kids = append(in.tree.Kids, d.function(in.known, w.goal.Type))
	}
	return in
}

// roomy returns the same input in new memory, with something behind each list.
func (in input) roomy() input {
	out := input{supers: roomy(in.supers, api.Super{Trait: "behind"}), goal: in.goal, tree: roomyTree(in.tree)}
	out.goal.Type = roomyType(in.goal.Type)
	for _, h := range in.headers {
		h.Params, h.Type = roomy(h.Params, api.Param{Name: "behind"}), roomyType(h.Type)
		out.headers = append(out.headers, h)
	}
	out.headers = roomy(out.headers, api.Header{Def: "behind"})
	for _, m := range in.known {
		m.Sig.Args, m.Sig.Result = roomyTypes(m.Sig.Args), roomyType(m.Sig.Result)
		out.known = append(out.known, m)
	}
	out.known = roomy(out.known, api.Known{Def: "behind"})
	return out
}

// show writes an input with one element more of each list.
func (in input) show() string {
	return fmt.Sprintf("%+v", []any{in.headers[:len(in.headers)+1], in.supers[:len(in.supers)+1], showRoom(in.goal.Type), showTree(in.tree), in.known[:len(in.known)+1]}) + in.showTypes()
}

func (in input) showTypes() string {
	out := ""
	for _, h := range in.headers {
		out += showRoom(h.Type) + fmt.Sprint(h.Params[:len(h.Params)+1])
	}
	for _, m := range in.known {
		out += showRoom(ty("", m.Sig.Args...)) + showRoom(m.Sig.Result)
	}
	return out
}

// showRoom writes a type with what is behind its Args.
func showRoom(t api.Type) string {
	out := t.Name + "<"
	for _, k := range t.Args {
		out += showRoom(k) + " "
	}
	if cap(t.Args) > len(t.Args) {
		out += "| " + t.Args[:len(t.Args)+1][len(t.Args)].Name
	}
	return out + ">"
}

func showTree(t api.Tree) string {
	out := fmt.Sprintf("%d %q %d(", t.Kind, t.Text, t.At)
	for _, k := range t.Kids {
		out += showTree(k) + " "
	}
	return out + "| " + t.Kids[:len(t.Kids)+1][len(t.Kids)].Text + ")"
}

func (in input) spoil() {
	for _, h := range in.headers {
		spoil(h.Params, api.Param{Name: "spoilt", Bound: "spoilt"})
		spoilTypes(h.Type.Args)
	}
	for _, m := range in.known {
		spoilTypes(m.Sig.Args)
		spoilTypes(m.Sig.Result.Args)
	}
	spoil(in.headers, api.Header{Def: "spoilt"})
	spoil(in.supers, api.Super{Trait: "spoilt"})
	spoil(in.known, api.Known{Def: "spoilt"})
	spoilTypes(in.goal.Type.Args)
	spoilTree(in.tree)
}

// results are what all functions return for one input.
type results struct {
	args     []api.Type
	leads    []api.Goal
	overlaps []int
	diags    []api.Diag
	read     api.Goal
	rest     string
}

func call(in input) results {
	var r results
	i, args, found := traits.Select(in.headers, in.goal.Type)
	leads, stands := traits.Leads(in.headers, in.supers, in.goal)
	text := traits.Goal(in.goal)
	read, ok := traits.ReadGoal(text)
	r.args, r.leads, r.overlaps, r.diags, r.read = args, leads, traits.Overlaps(in.headers), traits.Check(in.tree, in.goal.Type, in.known), read
	r.rest = fmt.Sprint(i, found, stands, text, ok, traits.Holds(in.headers, in.supers, in.goal))
	return r
}

func (r results) show() string {
	return fmt.Sprint(shows(r.args), showGoals(r.leads), r.overlaps, showDiags(r.diags), showGoals([]api.Goal{r.read}), r.rest)
}

func (r results) spoil() {
	spoilTypes(r.args)
	for _, g := range r.leads {
		spoilTypes(g.Type.Args)
	}
	spoil(r.leads, api.Goal{Trait: "spoilt"})
	spoil(r.overlaps, -1)
	spoil(r.diags, api.Diag{Code: 99})
	spoilTypes(r.read.Type.Args)
}

func inputs() []input {
	d := &dice{126}
	out := []input{{}}
	for range 1500 {
		out = append(out, d.input())
	}
	return out
}

func TestResultsShareNothing(t *testing.T) {
	for _, in := range inputs() {
		given := in.roomy()
		before := given.show()
		got := call(given)
		text := got.show()
		if given.show() != before {
			t.Fatalf("the calls have changed their arguments: %s, %s", before, given.show())
		}
		call(given).spoil()
		if given.show() != before {
			t.Fatalf("a change of the results has changed the arguments: %s, %s", before, given.show())
		}
		given.spoil()
		if got.show() != text || text != call(in).show() {
			t.Fatalf("the results share memory with others, or with the arguments: %s, %s", text, got.show())
		}
	}
}

// The types of one result share nothing.
func TestThePartsOfAResultShareNothing(t *testing.T) {
	x := of("P<L<L<int>>,P<L<int>,L<bool>>>")
	l := headers("T:S U:R T:Q X:S T:S S for P<$T,$U>")
	s := supers("S>A S>B S>A")
	_, args, _ := traits.Select(l, x)
	leads, _ := traits.Leads(l, s, api.Goal{Trait: "S", Type: x})
	if len(args) != 5 || len(leads) != 8 {
		t.Fatalf("%s, %s", shows(args), showGoals(leads))
	}
	for i := range args {
		rest := shows(args[i+1:])
		spoilTypes(args[i].Args)
		if shows(args[i+1:]) != rest {
			t.Errorf("the argument %d shares memory with others", i)
		}
	}
	for i := range leads {
		rest := showGoals(leads[i+1:])
		spoilTypes(leads[i].Type.Args)
		if showGoals(leads[i+1:]) != rest {
			t.Errorf("the goal %d shares memory with others", i)
		}
	}
	if !equal(x, of("P<L<L<int>>,P<L<int>,L<bool>>>")) {
		t.Errorf("the results share memory with the arguments")
	}
}

// Types whose Args are parts of one list are taken like any others.
func TestListsThatShareMemory(t *testing.T) {
	all := ofs("L<int> L<int> int")
	x := ty("P", ty("P", all[:2]...), ty("P", all[1:]...))
	l := headers("T:S U:S S for P<$T,$U>; T:S S for L<$T>; S for int; T S for P<$T,$T>")
	checkHolds(t, l, nil, api.Goal{Trait: "S", Type: x}, true)
	checkHolds(t, l, nil, api.Goal{Trait: "S", Type: ty("P", x, x)}, true)
	checkSelect(t, l[3:], ty("P", x, x), 0, "P<P<L<int>,L<int>>,P<L<int>,int>>")
	checkHolds(t, l[:2], nil, api.Goal{Trait: "S", Type: x}, false)
	// twice as many nodes on each level, but only as many lists as levels
	x = of("int")
	for range 100 {
		args := []api.Type{x, x}
		x = ty("P", args...)
	}
	checkHolds(t, l, supers("S>S"), api.Goal{Trait: "S", Type: x.Args[0]}, false)
}

// An empty list is like none.
func TestEmptyLists(t *testing.T) {
	checkSelect(t, []api.Header{{Params: []api.Param{}, Type: api.Type{Name: "int", Args: []api.Type{}}}}, of("int"), 0, "")
	checkSelect(t, headers("S for int"), api.Type{Name: "int", Args: []api.Type{}}, 0, "")
	checkSelect(t, headers("T S for $T"), api.Type{Name: "int", Args: []api.Type{}}, 0, "int")
	checkSelect(t, []api.Header{{Params: []api.Param{{Name: "T"}}, Type: api.Type{Name: "$T", Args: []api.Type{}}}}, of("L<int>"), 0, "L<int>")
	checkSelect(t, []api.Header{}, of("int"), -1, "")
	checkLeads(t, []api.Header{}, []api.Super{}, goal("S int"), "no")
	checkLeads(t, headers("S for int"), []api.Super{}, goal("S int"), "")
	checkHolds(t, headers("S for int"), []api.Super{}, goal("S int"), true)
	checkOverlaps(t, []api.Header{})
	checkOverlaps(t, []api.Header{{Type: api.Type{Name: "$T", Args: []api.Type{}}}, {Type: of("int")}}, 1)
	checkCheck(t, api.Tree{Kind: api.KImpl, Kids: []api.Tree{}}, "int", []api.Known{}, "")
	l := methods("a()int")
	l[0].Sig.Args, l[0].Sig.Result.Args = []api.Type{}, []api.Type{}
	checkCheck(t, impl("a()int"), "int", l, "")
}

// No state is kept: a call returns the same after others, and beside others.
func TestCallsDoNotDependOnOthers(t *testing.T) {
	l := inputs()
	var want []string
	for _, in := range l {
		want = append(want, call(in).show())
	}
	if len(slices.Compact(slices.Sorted(slices.Values(want)))) < 1000 {
		t.Errorf("many results are the same")
	}
	var wait sync.WaitGroup
	for w := range 4 {
		wait.Go(func() {
			for n := range l {
				i := (n*7 + w*31) % len(l)
				if got := call(l[i]).show(); got != want[i] {
					t.Errorf("after other calls: %s", got)
					return
				}
			}
		})
	}
	wait.Wait()
}
