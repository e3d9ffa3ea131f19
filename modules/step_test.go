package modules_test

import (
	"slices"
	"strconv"
	"testing"

	"recompile/api"
	"recompile/modules"
)

func TestStep(t *testing.T) {
	for _, c := range []struct{ names, others, want string }{
		{"", "", ""},
		{"", ";;", ""},
		{"x", "", "x=m::x"},
		{"x,y", "", "x=m::x,y=m::y"},
		{"y,x", "", "x=m::x,y=m::y"},
		{"x,x", "", "x=m::x"},
		{"y,x,y,x,z,y", ";", "x=m::x,y=m::y,z=m::z"},
		{"", "x=a::x", "x=a::x"},
		{"", "y=a::y,x=a::x", "x=a::x,y=a::y"},
		{"", "y=a::y;x=b::x", "x=b::x,y=a::y"},
		{"", "x=a::x;x=a::x", "x=a::x"},
		{"", "x=a::x,x=a::x", "x=a::x"},
		{"", "x=b::x;x=a::x", "x=a::x,x=b::x"},
		{"", "x=b::x,x=a::x", "x=a::x,x=b::x"},
		{"", "x=b::x,x=a::x;x=c::x,x=b::x;x=a::x", "x=a::x,x=b::x,x=c::x"},
		{"", "x=a::y,y=a::x", "x=a::y,y=a::x"},
		{"y", "x=a::x", "x=a::x,y=m::y"},
		{"x", "y=a::y", "x=m::x,y=a::y"},
		{"x", "x=a::x", "x=m::x"},
		{"x", "x=m::x", "x=m::x"},
		{"x", "x=m::y", "x=m::x"},
		{"x", "x=a::x,y=a::y;x=b::x,z=b::z", "x=m::x,y=a::y,z=b::z"},
		{"x,y", "x=a::x,y=a::y;y=b::y,x=b::x", "x=m::x,y=m::y"},
		{"x", "y=a::x,y=m::x", "x=m::x,y=a::x,y=m::x"},
		{"a", "x=a::x,aa=a::aa,A=a::A,=a::", "=a::,A=a::A,a=m::a,aa=a::aa,x=a::x"},
		{"impl a for b,impl a for b.f", "", ""},
		{"impl a for b,x,impl a for b.f", "x=a::x,y=a::y", "x=m::x,y=a::y"},
		{"impl ", "", ""},
		{"impl ,x", "", "x=m::x"},
		{"impl,impl1,implement x, impl a,IMPL a", "", " impl a=m:: impl a,IMPL a=m::IMPL a,impl=m::impl,impl1=m::impl1,implement x=m::implement x"},
		{"impl a for b", "impl a for b=a::x", "impl a for b=a::x"},
		{"x", "impl a for b=a::impl a for b,impl =a::x", "impl =a::x,impl a for b=a::impl a for b,x=m::x"},
		{"x,b", "c=z,b=z,a=z,x=z,y=y,y=a,y=", "a=z,b=m::b,c=z,x=m::x,y=,y=a,y=y"},
		{"z,_,Z,a9,a,aa", "", "Z=m::Z,_=m::_,a=m::a,a9=m::a9,aa=m::aa,z=m::z"},
	} {
		if got := modules.Step("m", words(c.names), lists(c.others)); !slices.Equal(got, binds(c.want)) {
			t.Errorf("%q with %q: %q", c.names, c.others, got)
		}
	}
}

func TestStepOfOtherStrings(t *testing.T) {
	for _, c := range []struct {
		module string
		names  []string
		others [][]api.Bind
		want   []api.Bind
	}{
		{"", []string{"x"}, nil, []api.Bind{{Name: "x", Def: "::x"}}},
		{"a::b", []string{"c::d"}, nil, []api.Bind{{Name: "c::d", Def: "a::b::c::d"}}},
		{"m", []string{""}, nil, []api.Bind{{Name: "", Def: "m::"}}},
		{"m", []string{""}, [][]api.Bind{{{Name: "", Def: "a"}, {Name: " ", Def: "b"}}}, []api.Bind{{Name: "", Def: "m::"}, {Name: " ", Def: "b"}}},
		{"m", []string{"é", "\x80", "\x00", "z"}, nil, []api.Bind{{Name: "\x00", Def: "m::\x00"}, {Name: "z", Def: "m::z"}, {Name: "\x80", Def: "m::\x80"}, {Name: "é", Def: "m::é"}}},
		{"impl ", []string{"x", "impl x", "impl"}, nil, []api.Bind{{Name: "impl", Def: "impl ::impl"}, {Name: "x", Def: "impl ::x"}}},
		{"m", nil, [][]api.Bind{nil, {{Name: "x", Def: "é"}, {Name: "x", Def: "\x80"}}, {}, {{Name: "ab", Def: "c"}, {Name: "a", Def: "bc"}}}, []api.Bind{{Name: "a", Def: "bc"}, {Name: "ab", Def: "c"}, {Name: "x", Def: "\x80"}, {Name: "x", Def: "é"}}},
	} {
		if got := modules.Step(c.module, c.names, c.others); !slices.Equal(got, c.want) {
			t.Errorf("%q, %q with %q: %q", c.module, c.names, c.others, got)
		}
	}
}

func TestStepWithMany(t *testing.T) {
	var names []string
	var others [][]api.Bind
	var want []api.Bind
	for i := range 3000 {
		name := strconv.Itoa(10000 + i)
		others = append(others, []api.Bind{{Name: name, Def: "a"}, {Name: "x", Def: name}, {Name: "x", Def: name}})
		if i%3 == 0 {
			names = append(names, name)
			want = append(want, api.Bind{Name: name, Def: "m::" + name})
		} else {
			want = append(want, api.Bind{Name: name, Def: "a"})
		}
	}
	for i := range 3000 {
		want = append(want, api.Bind{Name: "x", Def: strconv.Itoa(10000 + i)})
	}
	slices.Reverse(names)
	slices.Reverse(others)
	if got := modules.Step("m", names, others); !slices.Equal(got, want) {
		t.Errorf("%d binds", len(got))
	}
}

func TestLookup(t *testing.T) {
	for _, c := range []struct {
		l, name, def string
		n            int
	}{
		{"", "x", "", 0},
		{"", "", "", 0},
		{"x=a::x", "x", "a::x", 1},
		{"x=a::x", "y", "", 0},
		{"x=a::x", "a::x", "", 0},
		{"x=a::x", "", "", 0},
		{"x=a::x", "X", "", 0},
		{"x=y,y=x", "x", "y", 1},
		{"x=y,y=x", "y", "x", 1},
		{"x=b::y", "x", "b::y", 1},
		{"x=", "x", "", 1},
		{"=a", "", "a", 1},
		{"xx=b,x=a,xxx=c", "x", "a", 1},
		{"xx=b,x=a,xxx=c", "xx", "b", 1},
		{"xx=b,x=a,xxx=c", "xxx", "c", 1},
		{"w=a,x=b,y=c", "w", "a", 1},
		{"w=a,x=b,y=c", "y", "c", 1},
		{"x=a,x=a", "x", "a", 1},
		{"x=a,y=b,x=a,x=a", "x", "a", 1},
		{"x=,x=", "x", "", 1},
		{"x=a,x=b", "x", "", 2},
		{"x=b,x=a", "x", "", 2},
		{"x=,x=a", "x", "", 2},
		{"x=a,x=", "x", "", 2},
		{"x=a,x=b,x=a", "x", "", 2},
		{"x=a,x=b,x=b", "x", "", 2},
		{"x=a,y=b,x=c,y=c,x=d", "x", "", 3},
		{"x=a,y=b,x=c,y=c,x=d", "y", "", 2},
		{"x=a,y=b,x=c,y=c,x=d", "z", "", 0},
		{"x=e,x=d,x=c,x=b,x=a,x=e,x=b", "x", "", 5},
		{"impl a for b=c", "impl a for b", "c", 1},
	} {
		if def, n := modules.Lookup(binds(c.l), c.name); def != c.def || n != c.n {
			t.Errorf("%q in %q: %q, %d", c.name, c.l, def, n)
		}
	}
}

func TestLookupInMany(t *testing.T) {
	var l []api.Bind
	for i := range 5000 {
		l = append(l, api.Bind{Name: strconv.Itoa(i % 2500), Def: strconv.Itoa(i)}, api.Bind{Name: "x", Def: strconv.Itoa(i)}, api.Bind{Name: "y", Def: "one"})
	}
	for name, want := range map[string]int{"x": 5000, "0": 2, "2499": 2, "2500": 0} {
		if def, n := modules.Lookup(l, name); def != "" || n != want {
			t.Errorf("%q: %q, %d", name, def, n)
		}
	}
	if def, n := modules.Lookup(l, "y"); def != "one" || n != 1 {
		t.Errorf("y: %q, %d", def, n)
	}
}
