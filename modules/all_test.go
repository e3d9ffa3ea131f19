package modules_test

import (
	"slices"
	"strconv"
	"testing"

	"recompile/api"
	"recompile/modules"
)

func TestAll(t *testing.T) {
	for text, want := range map[string]string{
		// no re-exports
		"a:":                                   "",
		"a:x":                                  "x=a::x",
		"a:y,x,y":                              "x=a::x,y=a::y",
		"a:x;b:x;c:":                           "x=a::x;x=b::x;",
		":x":                                   "x=::x",
		"a:,x":                                 "=a::,x=a::x",
		"a:impl S for T":                       "",
		"a:impl S for T,x,impl S for T.f,impl": "impl=a::impl,x=a::x",
		// chains
		"a:x;b:>a":                          "x=a::x;x=a::x",
		"a:>b;b:x":                          "x=b::x;x=b::x",
		"a:y;b:x>a":                         "y=a::y;x=b::x,y=a::y",
		"a:>b;b:>c;c:>d;d:x":                "x=d::x;x=d::x;x=d::x;x=d::x",
		"d:x;c:>d;b:>c;a:>b":                "x=d::x;x=d::x;x=d::x;x=d::x",
		"a:w>b;b:x>c;c:y>d;d:z":             "w=a::w,x=b::x,y=c::y,z=d::z;x=b::x,y=c::y,z=d::z;y=c::y,z=d::z;z=d::z",
		"a:impl S for T>b;b:x,impl S for T": "x=b::x;x=b::x",
		// several re-exports, in one module
		"a:>b,c;b:x;c:y":        "x=b::x,y=c::y;x=b::x;y=c::y",
		"a:>c,b;b:x;c:x":        "x=b::x,x=c::x;x=b::x;x=c::x",
		"a:>b,c;b:>d;c:>d;d:x":  "x=d::x;x=d::x;x=d::x;x=d::x",
		"a:>b,c;b:x>d;c:>d;d:x": "x=b::x,x=d::x;x=b::x;x=d::x;x=d::x",
		"a:>b,b,b;b:x":          "x=b::x;x=b::x",
		"a:>b,c,b;b:x;c:x":      "x=b::x,x=c::x;x=b::x;x=c::x",
		// names that hide
		"a:x>b;b:x":        "x=a::x;x=b::x",
		"a:x>b;b:x,y":      "x=a::x,y=b::y;x=b::x,y=b::y",
		"a:>b;b:x>c;c:x,y": "x=b::x,y=c::y;x=b::x,y=c::y;x=c::x,y=c::y",
		"a:>b,c;b:x>c;c:x": "x=b::x,x=c::x;x=b::x;x=c::x",
		"a:x>b,c;b:x;c:x":  "x=a::x;x=b::x;x=c::x",
		// modules that no face has
		"a:>b":                "",
		"a:x>b":               "x=a::x",
		"a:>b,c,d;c:x":        "x=c::x;x=c::x",
		"a:>,A,aa, a,b::;b:x": ";x=b::x",
		// faces that re-export themselves
		"a:>a":            "",
		"a:x>a":           "x=a::x",
		"a:x>a,b,a;b:y>b": "x=a::x,y=b::y;y=b::y",
		// cycles
		"a:x>b;b:y>a":               "x=a::x,y=b::y;x=a::x,y=b::y",
		"a:x>b;b:x>a":               "x=a::x;x=b::x",
		"a:>b;b:>a":                 ";",
		"a:x>b;b:>c;c:>a":           "x=a::x;x=a::x;x=a::x",
		"a:x>b;b:y>c;c:z>a":         "x=a::x,y=b::y,z=c::z;x=a::x,y=b::y,z=c::z;x=a::x,y=b::y,z=c::z",
		"a:x>b;b:x>c;c:>a":          "x=a::x;x=b::x;x=a::x",
		"a:x>b;b:>a,c;c:x>b":        "x=a::x;x=a::x,x=c::x;x=c::x",
		"a:>b;b:>a,c;c:z;d:>a":      "z=c::z;z=c::z;z=c::z;z=c::z",
		"a:x>b;b:y>a;c:x>d;d:y>a,c": "x=a::x,y=b::y;x=a::x,y=b::y;x=c::x,y=d::y;x=a::x,x=c::x,y=d::y",
		"a:x>b,c;b:y>a,c;c:x,y>a,b": "x=a::x,y=b::y,y=c::y;x=a::x,x=c::x,y=b::y;x=c::x,y=c::y",
		// two cycles that meet
		"a:>b;b:x>a,c;c:>d;d:y>c": "x=b::x,y=d::y;x=b::x,y=d::y;y=d::y;y=d::y",
		// several faces with one Module
		"a:x;a:y":            "x=a::x;y=a::y",
		"a:x;a:y;b:>a":       "x=a::x;y=a::y;x=a::x",
		"b:>a;a:x;a:y":       "x=a::x;x=a::x;y=a::y",
		"a:;a:y;b:>a":        ";y=a::y;",
		"a:x;a:y>a":          "x=a::x;x=a::x,y=a::y",
		"a:x>a;a:y":          "x=a::x;y=a::y",
		"a:x>b;a:y>b;b:z>a":  "x=a::x,z=b::z;x=a::x,y=a::y,z=b::z;x=a::x,z=b::z",
		"a:>b;b:x;b:y;b:z>a": "x=b::x;x=b::x;y=b::y;x=b::x,z=b::z",
		"a:x;a:x;a:x>a":      "x=a::x;x=a::x;x=a::x",
	} {
		if got := modules.All(faces(text)); !equal(got, lists(want)) {
			t.Errorf("%s: %q", text, got)
		}
	}
	for _, l := range [][]api.Face{nil, {}} {
		if got := modules.All(l); len(got) != 0 {
			t.Errorf("no faces: %q", got)
		}
	}
}

// Binds that hold one another up in a cycle, but which no module defines, are in no list.
func TestAllIsTheLeast(t *testing.T) {
	for _, text := range []string{"a:>a", "a:>b;b:>a", "a:>b;b:>c;c:>a", "a:>b,c;b:>a,c;c:>a,b,c", "a:>b;b:impl x for y>a"} {
		l := faces(text)
		for i, got := range modules.All(l) {
			if len(got) != 0 {
				t.Errorf("%s: the face %d gives %q", text, i, got)
			}
		}
	}
}

func TestAllOfALongChain(t *testing.T) {
	n := 1500
	var down, up []api.Face
	for i := range n {
		down = append(down, api.Face{Module: strconv.Itoa(i), Pub: []string{strconv.Itoa(i + 1)}})
	}
	down[n-1].Own = []string{"x"}
	up = slices.Clone(down)
	slices.Reverse(up)
	ring := slices.Clone(down)
	ring[n-1].Pub = []string{"0"}
	ring[0].Own = []string{"y"}
	x, y := api.Bind{Name: "x", Def: strconv.Itoa(n-1) + "::x"}, api.Bind{Name: "y", Def: "0::y"}
	for _, list := range slices.Concat(modules.All(down), modules.All(up)) {
		if !slices.Equal(list, []api.Bind{x}) {
			t.Fatalf("a chain: %q", list)
		}
	}
	for i, list := range modules.All(ring) {
		if !slices.Equal(list, []api.Bind{x, y}) {
			t.Fatalf("the module %d of the ring: %q", i, list)
		}
	}
}

func TestAllOfModulesThatReexportAll(t *testing.T) {
	n := 60
	var l []api.Face
	var every []string
	for i := range n {
		every = append(every, strconv.Itoa(100+i))
	}
	for _, m := range every {
		l = append(l, api.Face{Module: m, Own: []string{"x", "y" + m, "impl z"}, Pub: every})
	}
	for i, got := range modules.All(l) {
		want := []api.Bind{{Name: "x", Def: every[i] + "::x"}}
		for _, m := range every {
			want = append(want, api.Bind{Name: "y" + m, Def: m + "::y" + m})
		}
		if !slices.Equal(got, want) {
			t.Fatalf("the module %d gives %d binds", i, len(got))
		}
	}
	l = append(l, api.Face{Module: "z", Pub: every})
	if got := modules.All(l)[n]; len(got) != 2*n {
		t.Errorf("a module without names gives %d binds", len(got))
	}
}

func TestAllWithAModuleThatIsNamedOften(t *testing.T) {
	l := []api.Face{{Module: "a", Pub: slices.Repeat([]string{"b"}, 20000)}, {Module: "b"}}
	var want []api.Bind
	for i := range 2000 {
		name := strconv.Itoa(10000 + i)
		l[1].Own = append(l[1].Own, name)
		want = append(want, api.Bind{Name: name, Def: "b::" + name})
	}
	if got := modules.All(l); !equal(got, [][]api.Bind{want, want}) {
		t.Error("a module that is named often gives something else")
	}
}
