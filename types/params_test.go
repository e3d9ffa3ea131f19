package types_test

import (
	"slices"
	"strconv"
	"strings"
	"testing"

	"recompile/api"
	"recompile/types"
)

func TestPut(t *testing.T) {
	for _, c := range []struct{ t, names, l, want string }{
		{"$T", "T", "int", "int"}, {"$T", "T", "L<int>", "L<int>"}, {"$T", "", "", "$T"}, {"$T", "U", "int", "$T"}, {"$T", "TT", "int", "$T"}, {"$TT", "T", "int", "$TT"}, {"$T", "$T", "int", "$T"}, {"$$T", "$T", "int", "int"},
		{"T", "T", "int", "T"}, {"?T", "T", "int", "?T"}, {"T$T", "T", "int", "T$T"}, {"?0", "?0", "int", "?0"}, {"_", "_", "int", "_"}, {"$", "_", "int", "int"}, {"$", "T", "int", "$"}, {"$", "$", "int", "$"}, {"$t", "T", "int", "$t"},
		{"L<$T>", "T", "int", "L<int>"}, {"P<$T,$U>", "T U", "int bool", "P<int,bool>"}, {"P<$T,$U>", "U T", "int bool", "P<bool,int>"}, {"P<$T,$T>", "T", "L<a>", "P<L<a>,L<a>>"}, {"P<L<L<$T>>,$U>", "T U", "a b<c>", "P<L<L<a>>,b<c>>"},
		// with Args it stays, but what is in it is replaced
		{"$T<int>", "T", "a", "$T<int>"}, {"$T<$T>", "T", "a", "$T<a>"}, {"$T<$T<$T>,$U>", "T U", "a b", "$T<$T<a>,b>"},
		// what comes in is not looked at again
		{"$T", "T", "$T", "$T"}, {"$T", "T", "L<$T>", "L<$T>"}, {"P<$T,$U>", "T U", "$U $T", "P<$U,$T>"}, {"P<$T,$U>", "T U", "L<$U> int", "P<L<$U>,int>"}, {"P<$U,$T>", "T U", "L<$U> L<$T>", "P<L<$T>,L<$U>>"},
		// the first one of several names counts
		{"$T", "T T", "a b", "a"}, {"P<$T,$U>", "T U T", "a b c", "P<a,b>"}, {"P<$T,$U>", "T T U", "a b c", "P<a,c>"}, {"P<$U,$T>", "U T U T", "_ b c d", "P<_,b>"},
		// l is too short, or too long
		{"P<$T,$U>", "T U", "a", "P<a,$U>"}, {"P<$T,$U>", "T U", "", "P<$T,$U>"}, {"P<$T,$U>", "U T", "a", "P<$T,a>"}, {"P<$T,$U>", "T U T", "a", "P<a,$U>"}, {"P<$T,$U>", "T T U", "a b", "P<a,$U>"}, {"P<$T,$U>", "T", "a b c", "P<a,$U>"}, {"P<$T,$U>", "", "a b", "P<$T,$U>"},
		// names that are nowhere, types with other Names
		{"P<$T,$U>", "A T B U C", "a b c d e", "P<b,d>"}, {"error", "error", "a", "error"}, {"P<?0,error,unit,a::b>", "T", "a", "P<?0,error,unit,a::b>"}, {"$T", "T", "?0", "?0"}, {"$T", "T", "error", "error"}, {"$T", "T", "_", "_"}, {"P<_,_<_>>", "T", "a", "P<_,_<_>>"},
	} {
		var names []string
		for _, n := range strings.Fields(c.names) {
			names = append(names, strings.Trim(n, "_"))
		}
		if got := types.Put(of(c.t), names, ofs(c.l)); !equal(got, of(c.want)) {
			t.Errorf("Put(%s, %q, %s) = %s, expected %s", c.t, names, c.l, show(got), c.want)
		}
	}
}

// put says in another way what Put returns: every parameter is looked for in all names.
func put(t api.Type, names []string, l []api.Type) api.Type {
	out := ty(t.Name)
	for _, k := range t.Args {
		out.Args = append(out.Args, put(k, names, l))
	}
	for i := len(names) - 1; i >= 0; i-- {
		if len(t.Args) == 0 && t.Name == "$"+names[i] {
			out = t
			if i < len(l) {
				out = l[i]
			}
		}
	}
	return out
}

func TestPutOfGeneratedTypes(t *testing.T) {
	d := &dice{23}
	for range 30000 {
		x := d.typeOf(1+d.roll(5), "$A", "$B", "$C", "$", "A", "int", "$A$B")
		var names []string
		var l []api.Type
		for range d.roll(5) {
			names = append(names, d.pick("A", "B", "C", "", "A$B", "D", "$A"))
		}
		for range d.roll(5) {
			l = append(l, d.typeOf(1+d.roll(3), "$A", "$B", "$D", "int", ""))
		}
		if got, want := types.Put(x, names, l), put(x, names, l); !equal(got, want) {
			t.Fatalf("Put(%s, %q, %s) = %s, expected %s", show(x), names, shows(l), show(got), show(want))
		}
	}
}

func TestMatch(t *testing.T) {
	for _, c := range []struct{ pattern, t, names, l string }{
		{"int", "int", "", ""}, {"_", "_", "", ""}, {"P<a,L<b>>", "P<a,L<b>>", "", ""},
		{"$T", "int", "T", "int"}, {"$T", "L<int>", "T", "L<int>"}, {"$T", "_", "T", "_"}, {"$T", "error", "T", "error"}, {"$", "int", "-", "int"}, {"$$T", "int", "$T", "int"}, {"$T", "?3", "T", "?3"},
		{"L<$T>", "L<int>", "T", "int"}, {"L<$T>", "L<L<int>>", "T", "L<int>"}, {"L<L<$T>>", "L<L<int>>", "T", "int"},
		// the order is that in which they come first
		{"P<$B,$A>", "P<int,bool>", "B A", "int bool"}, {"P<$A,$B>", "P<int,bool>", "A B", "int bool"}, {"P<L<$C>,$A,L<$B>>", "P<L<c>,a,L<b>>", "C A B", "c a b"}, {"P<$B,$A,$B,$C,$A>", "P<b,a,b,c,a>", "B A C", "b a c"}, {"P<P<P<$C>,$B>,$A>", "P<P<P<c>,b>,a>", "C B A", "c b a"},
		// a parameter that comes often
		{"P<$T,$T>", "P<int,int>", "T", "int"}, {"P<$T,$T>", "P<L<a>,L<a>>", "T", "L<a>"}, {"P<$T,L<$T>>", "P<L<a>,L<L<a>>>", "T", "L<a>"},
		// parameters with Args are types like others; those in them are found
		{"$T<int>", "$T<int>", "", ""}, {"$T<$T>", "$T<int>", "T", "int"}, {"$T<$U>", "$T<$V>", "U", "$V"}, {"P<$T<$U>,$T>", "P<$T<a>,b>", "U T", "a b"}, {"P<$T,$T<$T>>", "P<a,$T<a>>", "T", "a"},
		// parameters within the type are types like others
		{"$T", "$T", "T", "$T"}, {"$T", "$U", "T", "$U"}, {"$T", "L<$T>", "T", "L<$T>"}, {"P<$T,$U>", "P<$U,$T>", "T U", "$U $T"}, {"P<$T,$T>", "P<$U,$U>", "T", "$U"}, {"L<$T>", "L<$T<$T>>", "T", "$T<$T>"},
		// variables and error are types like others
		{"P<?0,error>", "P<?0,error>", "", ""}, {"P<$T,$T>", "P<error,error>", "T", "error"}, {"P<$T,$T>", "P<?1,?1>", "T", "?1"},
	} {
		names, l, ok := types.Match(of(c.pattern), of(c.t))
		if want := strings.Fields(strings.ReplaceAll(c.names, "-", "_")); !ok || !slices.Equal(names, trimmed(want)) || shows(l) != shows(ofs(c.l)) {
			t.Errorf("Match(%s, %s) = %q, %s, %t", c.pattern, c.t, names, shows(l), ok)
		}
	}
}

// trimmed returns names, in which "_" stands for nothing.
func trimmed(l []string) []string {
	var out []string
	for _, s := range l {
		out = append(out, strings.Trim(s, "_"))
	}
	return out
}

func TestMatchRefuses(t *testing.T) {
	for _, c := range []struct{ pattern, t string }{
		{"int", "bool"}, {"int", "_"}, {"_", "int"}, {"int", "Int"}, {"int", "L<int>"}, {"L<int>", "int"}, {"L<int>", "L"}, {"L", "L<int>"}, {"L<$T>", "M<int>"}, {"L<$T>", "L<a,b>"}, {"L<$T>", "L"}, {"P<$T,$U>", "P<a>"}, {"P<$T,$U>", "P<a,b,c>"}, {"P<$T,int>", "P<a,b>"}, {"P<int,$T>", "P<a,b>"},
		{"L<L<$T>>", "L<int>"}, {"L<L<$T>>", "L<M<int>>"}, {"L<L<$T>>", "L<L<a,b>>"}, {"P<L<$T>,a>", "P<L<int>,b>"},
		{"P<$T,$T>", "P<a,b>"}, {"P<$T,$T>", "P<L<a>,L<b>>"}, {"P<$T,$T>", "P<L<a>,L<a,a>>"}, {"P<$T,$U,$T>", "P<a,a,b>"}, {"P<$T,L<$T>>", "P<a,a>"}, {"P<$T,$T>", "P<a,$T>"}, {"P<$T,$T>", "P<error,a>"}, {"P<$T,$T>", "P<a,error>"}, {"P<$T,$T>", "P<?0,a>"}, {"P<$T,$T>", "P<_,a>"},
		{"$T<int>", "L<int>"}, {"$T<$T>", "L<int>"}, {"$T<int>", "$T"}, {"$T<int>", "int"}, {"$T<$U>", "$U<a>"}, {"$T<a>", "$T<b>"}, {"int", "$T"}, {"L<int>", "L<$T>"}, {"L<int>", "$T"},
		{"?0", "int"}, {"?0", "?1"}, {"int", "?0"}, {"error", "int"}, {"int", "error"}, {"L<error>", "L<int>"},
	} {
		if names, l, ok := types.Match(of(c.pattern), of(c.t)); ok || len(names) != 0 || len(l) != 0 {
			t.Errorf("Match(%s, %s) = %q, %s, %t", c.pattern, c.t, names, shows(l), ok)
		}
	}
}

// parameters returns the parameters without Args of a type, in the order in which they come first.
func parameters(t api.Type) []string {
	if len(t.Args) == 0 && strings.HasPrefix(t.Name, "$") {
		return []string{t.Name[1:]}
	}
	var out []string
	for _, k := range t.Args {
		for _, p := range parameters(k) {
			if !slices.Contains(out, p) {
				out = append(out, p)
			}
		}
	}
	return out
}

// match says in another way what Match returns: of all types within t those are tried with which Put could make it.
func match(pattern, t api.Type, names []string, l []api.Type) ([]api.Type, bool) {
	if len(l) == len(names) {
		return l, equal(put(pattern, names, l), t)
	}
	var tried []string
	for _, x := range nodes(t) {
		if slices.Contains(tried, show(x)) {
			continue
		}
		tried = append(tried, show(x))
		if found, ok := match(pattern, t, names, append(slices.Clone(l), x)); ok {
			return found, true
		}
	}
	return nil, false
}

// checkMatch tests a Match, and returns whether there is one.
func checkMatch(t *testing.T, pattern, x api.Type) bool {
	t.Helper()
	names, l, ok := types.Match(pattern, x)
	want := parameters(pattern)
	wantTypes, wantOK := match(pattern, x, want, nil)
	if !wantOK {
		want = nil
	}
	if ok != wantOK || !slices.Equal(names, want) || shows(l) != shows(wantTypes) {
		t.Fatalf("Match(%s, %s) = %q, %s, %t", show(pattern), show(x), names, shows(l), ok)
	}
	if ok && !equal(types.Put(pattern, names, l), x) {
		t.Fatalf("Put with Match(%s, %s) = %s", show(pattern), show(x), show(types.Put(pattern, names, l)))
	}
	return ok
}

func TestMatchOfGeneratedTypes(t *testing.T) {
	t.Parallel()
	d := &dice{31}
	matches := 0
	for range 20000 {
		pattern := d.typeOf(1+d.roll(4), "$A", "$B", "$", "int", "$A")
		x := types.Put(pattern, []string{"A", "B", ""}, []api.Type{d.typeOf(1+d.roll(3), "int", "$A", "$C"), d.typeOf(1+d.roll(2), "int", "$B", "?0"), ty("int")})
		if d.roll(2) == 0 {
			x = d.changed(x)
		}
		if checkMatch(t, pattern, x) {
			matches++
		}
	}
	if matches < 10000 || matches > 19000 {
		t.Errorf("%d types match", matches)
	}
}

// changed returns a type with a change somewhere.
func (d *dice) changed(t api.Type) api.Type {
	if len(t.Args) > 0 && d.roll(3) > 0 {
		t.Args = slices.Clone(t.Args)
		i := d.roll(len(t.Args))
		t.Args[i] = d.changed(t.Args[i])
		return t
	}
	switch d.roll(3) {
	case 0:
		return ty(d.pick("int", "a", "L", "$A"), t.Args...)
	case 1:
		return ty(t.Name, append(slices.Clone(t.Args), ty("int"))...)
	}
	return d.typeOf(2, "int", "a", "$A")
}

// All patterns and types of few nodes.
func TestMatchOfEveryType(t *testing.T) {
	t.Parallel()
	for _, pattern := range small("$A", "$B", "a") {
		for _, x := range small("a", "b", "$A") {
			checkMatch(t, pattern, x)
		}
	}
}

// small returns types of at most four nodes, those without Args with some Names, others with the Name L, and some of the first Name.
func small(leaves ...string) []api.Type {
	var one, two, out []api.Type
	for _, s := range leaves {
		one = append(one, ty(s))
	}
	for _, a := range one {
		two = append(two, ty("L", a), ty(leaves[0], a))
	}
	for _, a := range one {
		for _, b := range slices.Concat(one, two) {
			out = append(out, ty("L", a, b))
		}
		for _, b := range two {
			out = append(out, ty("L", b, a))
		}
	}
	for _, b := range two {
		out = append(out, ty("L", b))
	}
	return slices.Concat(one, two, out)
}

func TestManyParameters(t *testing.T) {
	const n = 20000
	var names []string
	var params, l []api.Type
	for i := range n {
		names = append(names, "T"+strconv.Itoa(i))
		params = append(params, ty("$T"+strconv.Itoa(i)))
		l = append(l, ty("L", ty("a"+strconv.Itoa(i))))
	}
	pattern, want := ty("P", slices.Concat(params, params)...), ty("P", slices.Concat(l, l)...)
	if got := types.Put(pattern, names, l); !equal(got, want) {
		t.Error("Put of many parameters is another type")
	}
	found, s, ok := types.Match(pattern, want)
	if !ok || !slices.Equal(found, names) || shows(s) != shows(l) {
		t.Error("Match does not find many parameters")
	}
	want.Args[2*n-1] = ty("L", ty("b"))
	if _, _, ok := types.Match(pattern, want); ok {
		t.Error("Match finds many parameters")
	}
}
