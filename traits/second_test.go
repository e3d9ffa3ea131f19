package traits_test

import (
	"fmt"
	"maps"
	"slices"
	"strings"
	"testing"

	"recompile/api"
	"recompile/traits"
	"recompile/types"
)

// This is a second reading of the chapter, in which parameters are found by their places, and goals hold if they do so after many rounds. The layer is compared with it.

// parameters returns the places of the parameters in a type, each with its name: a place is the numbers of Args, one within the other.
func parameters(t api.Type, place []int) map[string]string {
	out := map[string]string{}
	if len(t.Args) == 0 && strings.HasPrefix(t.Name, "$") {
		out[fmt.Sprint(place)] = t.Name[1:]
	}
	for i, k := range t.Args {
		maps.Copy(out, parameters(k, append(slices.Clone(place), i)))
	}
	return out
}

// places returns the types within a type by their places.
func places(t api.Type, place []int) map[string]api.Type {
	out := map[string]api.Type{fmt.Sprint(place): t}
	for i, k := range t.Args {
		maps.Copy(out, places(k, append(slices.Clone(place), i)))
	}
	return out
}

// replaced returns a type with other types for its parameters.
func replaced(t api.Type, with map[string]api.Type) api.Type {
	name, is := strings.CutPrefix(t.Name, "$")
	if x, ok := with[name]; ok && is && len(t.Args) == 0 {
		return x
	}
	out := ty(t.Name)
	for _, k := range t.Args {
		out.Args = append(out.Args, replaced(k, with))
	}
	return out
}

// readMatch returns the arguments of a header, and whether it matches a type.
func readMatch(h api.Header, t api.Type) ([]api.Type, bool) {
	found, there := map[string]api.Type{}, places(t, nil)
	for place, name := range parameters(h.Type, nil) {
		x, ok := there[place]
		if !ok {
			return nil, false
		}
		found[name] = x
	}
	if !equal(replaced(h.Type, found), t) {
		return nil, false
	}
	var args []api.Type
	for _, p := range h.Params {
		if x, ok := found[p.Name]; ok {
			args = append(args, x)
		} else {
			args = append(args, ty("error"))
		}
	}
	return args, true
}

func readSelect(l []api.Header, t api.Type) (int, []api.Type) {
	for i, h := range l {
		if args, ok := readMatch(h, t); ok {
			return i, args
		}
	}
	return -1, nil
}

func readLeads(l []api.Header, s []api.Super, g api.Goal) ([]api.Goal, bool) {
	if (g.Type.Name + "-")[0] == '$' {
		return nil, g.Type.Name[1:] == g.Trait
	}
	if g.Type.Name == "error" {
		return nil, true
	}
	var own []api.Header
	for _, h := range l {
		if h.Trait == g.Trait {
			own = append(own, h)
		}
	}
	i, args := readSelect(own, g.Type)
	if i < 0 {
		return nil, false
	}
	var out []api.Goal
	for k, x := range args {
		if own[i].Params[k].Bound != "" {
			out = append(out, api.Goal{Trait: own[i].Params[k].Bound, Type: x})
		}
	}
	for _, x := range s {
		if x.Trait == g.Trait {
			out = append(out, api.Goal{Trait: x.Above, Type: g.Type})
		}
	}
	return out, true
}

// readHolds returns the goals that hold, of all that a goal could lead to. At first none does; in each round those do that lead only to goals that hold.
func readHolds(l []api.Header, s []api.Super, g api.Goal) map[string]bool {
	names := []string{g.Trait}
	for _, x := range s {
		names = append(names, x.Above)
	}
	for _, h := range l {
		for _, p := range h.Params {
			names = append(names, p.Bound)
		}
	}
	all := map[string]api.Goal{}
	for _, name := range names {
		for _, t := range append(nodes(g.Type), ty("error")) {
			x := api.Goal{Trait: name, Type: t}
			all[showGoals([]api.Goal{x})] = x
		}
	}
	holds := map[string]bool{}
	for more := true; more; {
		more = false
		for text, x := range all {
			leads, stands := readLeads(l, s, x)
			missing := slices.ContainsFunc(leads, func(y api.Goal) bool { return !holds[showGoals([]api.Goal{y})] })
			if stands && !missing && !holds[text] {
				holds[text], more = true, true
			}
		}
	}
	return holds
}

// unify reports whether two types can be equal with types for their parameters, which it adds to others.
func unify(a, b api.Type, known map[string]api.Type) bool {
	isParameter := func(t api.Type) bool { return len(t.Args) == 0 && strings.HasPrefix(t.Name, "$") }
	head := func(t api.Type) api.Type {
		for isParameter(t) {
			x, ok := known[t.Name]
			if !ok {
				break
			}
			t = x
		}
		return t
	}
	a, b = head(a), head(b)
	if isParameter(b) && !isParameter(a) {
		a, b = b, a
	}
	switch {
	case isParameter(a) && equal(a, b):
		return true
	case isParameter(a):
		if !equal(b, api.Type{}) {
			known[a.Name] = b
		}
		return !occurs(a.Name, b, known)
	case a.Name == "error" || b.Name == "error":
		return true
	case a.Name != b.Name || len(a.Args) != len(b.Args):
		return false
	}
	for i := range a.Args {
		if !unify(a.Args[i], b.Args[i], known) {
			return false
		}
	}
	return true
}

func occurs(name string, t api.Type, known map[string]api.Type) bool {
	for _, n := range nodes(t) {
		if len(n.Args) > 0 {
			continue
		}
		if x, ok := known[n.Name]; n.Name == name || ok && occurs(name, x, known) {
			return true
		}
	}
	return false
}

// renamed returns a type whose parameters have something behind their names.
func renamed(t api.Type, with string) api.Type {
	out := ty(t.Name)
	if len(t.Args) == 0 && strings.HasPrefix(t.Name, "$") {
		out.Name += with
	}
	for _, k := range t.Args {
		out.Args = append(out.Args, renamed(k, with))
	}
	return out
}

func readOverlaps(l []api.Header) []int {
	var out []int
	for i := range l {
		for j := range i {
			if l[i].Trait == l[j].Trait && unify(renamed(l[j].Type, "/a"), renamed(l[i].Type, "/b"), map[string]api.Type{}) {
				out = append(out, i)
				break
			}
		}
	}
	return out
}

// compareGoal compares what the layer says of a goal with the second reading, and returns how it came to be.
func compareGoal(t *testing.T, l []api.Header, s []api.Super, g api.Goal) string {
	t.Helper()
	in := func() string {
		return fmt.Sprintf("%s with %s and %q", showGoals([]api.Goal{g}), showHeaders(l), s)
	}
	i, args, ok := traits.Select(l, g.Type)
	if wantI, want := readSelect(l, g.Type); i != wantI || ok != (i >= 0) || shows(args) != shows(want) || len(args) != len(want) {
		t.Fatalf("%s: Select finds %d, %s, %t, not %d, %s", in(), i, shows(args), ok, wantI, shows(want))
	}
	leads, stands := traits.Leads(l, s, g)
	if want, wantStands := readLeads(l, s, g); stands != wantStands || showGoals(leads) != showGoals(want) {
		t.Fatalf("%s: it leads to %s, %t, not %s, %t", in(), showGoals(leads), stands, showGoals(want), wantStands)
	}
	holds := traits.Holds(l, s, g)
	if want := readHolds(l, s, g)[showGoals([]api.Goal{g})]; holds != want {
		t.Fatalf("%s: that it holds is %t", in(), holds)
	}
	return fmt.Sprintf("stands %t, leads to others %t, holds %t", stands, len(leads) > 0, holds)
}

func TestAllSmallMatches(t *testing.T) {
	patterns, l := small(5, "$T", "$U", "a"), small(5, "a", "$T", "error")
	count := 0
	for _, p := range patterns {
		h := []api.Header{{Params: []api.Param{{Name: "U"}, {Name: "T"}}, Type: p}}
		for _, x := range l {
			i, args, ok := traits.Select(h, x)
			if wantI, want := readSelect(h, x); i != wantI || ok != (i >= 0) || shows(args) != shows(want) {
				t.Fatalf("%s and %s: %d, %s, not %d, %s", show(p), show(x), i, shows(args), wantI, shows(want))
			}
			if _, _, found := types.Match(p, x); found != ok {
				t.Fatalf("%s and %s: that types.Match finds parameters is %t", show(p), show(x), found)
			}
			if ok {
				count++
			}
		}
	}
	if count < 1000 || len(patterns) < 100 {
		t.Errorf("only %d of %d patterns match", count, len(patterns))
	}
}

func TestAllSmallOverlaps(t *testing.T) {
	t.Parallel()
	l := append(small(5, "$T", "$U", "a"), ofs("error L<error> P<error,$T> _ L<_> b $T<a> $U<$T>")...)
	count := 0
	for _, a := range l {
		for _, b := range l {
			h := []api.Header{{Type: a}, {Type: b}}
			if got, want := traits.Overlaps(h), readOverlaps(h); !slices.Equal(got, want) {
				t.Fatalf("%s and %s overlap: %v", show(a), show(b), got)
			}
			count += len(traits.Overlaps(h))
		}
	}
	if count < 1000 || count > len(l)*len(l)*9/10 {
		t.Errorf("%d of %d overlap", count, len(l)*len(l))
	}
}

// All goals with a trait S and small types, for all lists of three headers and two supertraits of some.
func TestAllSmallGoals(t *testing.T) {
	t.Parallel()
	l := headers("S for a; T:S S for L<$T>; T:R S for L<$T>; T:S S for $T; T:R S for $T; T:S U:R S for P<$T,$U>; X:S S for a; R for a; T:S R for L<$T>; T:S R for $T; T R for $T")
	s := supers("S>R R>S S>S")
	all := append(small(3, "a", "$S", "$R"), ty("error"))
	seen := map[string]int{}
	for i := range l {
		for j := range l {
			for k := range l {
				for m := range 4 {
					list := []api.Header{l[i], l[j], l[k]}
					if i == j {
						list = list[1:]
					}
					above := []api.Super{s[m%3], s[(m+i+j)%3]}[:m%3]
					for _, x := range all {
						seen[compareGoal(t, list, above, api.Goal{Trait: "S", Type: x})]++
					}
				}
			}
		}
	}
	checkSeen(t, seen)
}

func checkSeen(t *testing.T, seen map[string]int) {
	t.Helper()
	for _, what := range []string{"stands false, leads to others false, holds false", "stands true, leads to others false, holds true", "stands true, leads to others true, holds false", "stands true, leads to others true, holds true"} {
		if seen[what] < 1000 {
			t.Errorf("of what %s there are only %d", what, seen[what])
		}
	}
	if len(seen) > 4 {
		t.Errorf("there are goals of other kinds: %v", seen)
	}
}

func TestGeneratedGoals(t *testing.T) {
	t.Parallel()
	d := &dice{12}
	seen := map[string]int{}
	names := []string{"S", "R", "Q", "", "p::S"}
	for i := range 20000 {
		some := names[:1+i%5]
		x := d.typeOf(1+d.roll(5), "int", "bool", "int", "bool", "error", "$S", "$R", "$", "?0", "")
		seen[compareGoal(t, d.headers(8, some...), d.supers(3, some...), api.Goal{Trait: d.pick(some...), Type: x})]++
	}
	checkSeen(t, seen)
}

// Programs in which most types have most traits, so that goals lead far.
func TestGeneratedGoalsThatLeadFar(t *testing.T) {
	t.Parallel()
	d := &dice{13}
	seen := map[string]int{}
	for range 7500 {
		var l []api.Header
		for _, trait := range []string{"S", "R", "Q"} {
			param := func(name string) string { return name + ":" + d.pick("S", "R", "Q", "", "") }
			for _, h := range []string{trait + " for int", trait + " for bool", param("T") + " " + trait + " for L<$T>", param("T") + " " + param("U") + " " + trait + " for P<$T,$U>"} {
				if d.roll(12) > 0 {
					l = append(l, headers(h)...)
				}
			}
		}
		s := d.supers(2, "S", "R", "Q")
		if d.roll(2) == 0 {
			s = supers(d.pick("S>R", "S>R R>Q", "Q>S", ""))
		}
		seen[compareGoal(t, l, s, api.Goal{Trait: d.pick("S", "R", "Q"), Type: d.typeOf(5, "int", "bool")})]++
	}
	checkSeen(t, seen)
}

func TestGeneratedOverlaps(t *testing.T) {
	d := &dice{14}
	count := map[int]int{}
	for range 20000 {
		var l []api.Header
		for _, h := range d.headers(7, "S", "R", "") {
			if !strings.Contains(show(h.Type), "?") {
				l = append(l, h)
			}
		}
		got, want := traits.Overlaps(l), readOverlaps(l)
		if !slices.Equal(got, want) {
			t.Fatalf("Overlaps of %s: %v, not %v", showHeaders(l), got, want)
		}
		count[len(got)]++
	}
	for n := range 4 {
		if count[n] < 1000 {
			t.Errorf("there are only %d lists of which %d overlap", count[n], n)
		}
	}
}

// readCheck looks for each name from the beginning.
func readCheck(t api.Tree, self api.Type, l []api.Known) []api.Diag {
	var out []api.Diag
	add := func(node int, text string) {
		if t.Kind == api.KImpl {
			out = append(out, api.Diag{Code: 13, Node: node, Text: text})
		}
	}
	for _, m := range l {
		if !slices.ContainsFunc(t.Kids, func(k api.Tree) bool { return k.Kind == api.KFn && k.Text == m.Def }) {
			add(t.At, m.Def)
		}
	}
	for _, k := range t.Kids {
		if k.Kind != api.KFn {
			continue
		}
		i := slices.IndexFunc(l, func(m api.Known) bool { return m.Def == k.Text })
		if i < 0 || readTypes(k) != wantedTypes(l[i].Sig, self) {
			add(k.At, k.Text)
		}
	}
	return out
}

// readTypes writes the types of the arguments and the result of a function.
func readTypes(fn api.Tree) string {
	var read func(t api.Tree) api.Type
	read = func(t api.Tree) api.Type {
		out := ty(t.Text)
		for _, k := range t.Kids {
			out.Args = append(out.Args, read(k))
		}
		if t.Kind != api.KTypeOf {
			return ty("error")
		}
		return out
	}
	kids := append(slices.Clone(fn.Kids), make([]api.Tree, 3)...)
	out := ""
	for _, k := range kids[1].Kids {
		if k.Kind == api.KArg {
			out += show(read(append(slices.Clone(k.Kids), api.Tree{})[0])) + ", "
		}
	}
	return out + "-> " + show(read(kids[2]))
}

func wantedTypes(sig api.Signature, self api.Type) string {
	out := ""
	for _, x := range sig.Args {
		out += show(replaced(x, map[string]api.Type{"Self": self})) + ", "
	}
	return out + "-> " + show(replaced(sig.Result, map[string]api.Type{"Self": self}))
}

// function returns a function, mostly with the types of one of some methods.
func (d *dice) function(l []api.Known, self api.Type) api.Tree {
	out := function(d.pick("a", "b", "c", "d")+"()int", 1+d.roll(50))
	sig := api.Signature{Result: d.typeOf(2, "int", "$Self")}
	if len(l) > 0 {
		m := l[d.roll(len(l))]
		out.Text, sig = m.Def, m.Sig
	}
	for i, x := range sig.Args {
		out.Kids[1].Kids = append(out.Kids[1].Kids, tree(api.KArg, "x", i, typeTree(replaced(x, map[string]api.Type{"Self": self}))))
	}
	out.Kids[2] = typeTree(replaced(sig.Result, map[string]api.Type{"Self": self}))
	switch d.roll(10) {
	case 0:
		out.Kids[2].Kind = api.KName
	case 1:
		out.Kids = out.Kids[:d.roll(len(out.Kids))]
	case 2:
		out.Kids[1].Kids = append(out.Kids[1].Kids, tree(d.roll(20), "x", 3))
	case 3:
		out.Kind = d.roll(20)
	}
	return out
}

func TestGeneratedChecks(t *testing.T) {
	d := &dice{15}
	count := map[int]int{}
	for range 30000 {
		self := d.typeOf(3, "int", "$T", "error", "$Self")
		var l []api.Known
		for range d.roll(5) {
			m := api.Known{Def: d.pick("a", "b", "c", "d", "e"), Sig: api.Signature{Kind: api.SigMethod, Result: d.typeOf(2, "int", "$Self", "$T")}}
			for range d.roll(3) {
				m.Sig.Args = append(m.Sig.Args, d.typeOf(2, "int", "$Self", "$T"))
			}
			l = append(l, m)
		}
		in := tree(api.KImpl, "p::S", d.roll(9))
		for range d.roll(7) {
			in.Kids = append(in.Kids, d.function(l, self))
		}
		if d.roll(20) == 0 {
			in.Kind = d.roll(40)
		}
		got, want := traits.Check(in, self, l), readCheck(in, self, l)
		if !slices.Equal(got, want) {
			t.Fatalf("Check of %v for %s with %v: %s, not %s", in, show(self), l, showDiags(got), showDiags(want))
		}
		count[len(got)]++
	}
	for n := range 5 {
		if count[n] < 1000 {
			t.Errorf("there are only %d implementations with %d diagnostics", count[n], n)
		}
	}
}
