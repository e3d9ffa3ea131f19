package macros_test

import (
	"slices"
	"testing"

	"recompile/api"
	"recompile/macros"
)

// known are the binds of the modules of macros: z is found several times, w never.
const known = "a=p::a,f=p::f,n=p::n,x=p::x,y=q::y,z=p::z,z=q::z"

func TestPrepare(t *testing.T) {
	for text, want := range map[string]string{
		// params
		"macro m() = 1;":          "p::m() = int 1@12",
		"macro m(x) = 1;":         "p::m(x) = int 1@13",
		"macro m(x,y) = 1;":       "p::m(x,y) = int 1@15",
		"macro m(y,x,w,z) = 1;":   "p::m(y,x,w,z) = int 1@19",
		"macro m(x,x) = 1;":       "p::m(x,x) = int 1@15",
		"macro m(x,y,x,y,y) = x;": "p::m(x,y,x,y,y) = name x@21",
		"macro n(m) = true;":      "p::m(m) = bool true@13",
		"macro m(x) = x;":         "p::m(x) = name x@13",
		"macro m(x,y) = y - x;":   "p::m(x,y) = binary -@15(name y@15, name x@19)",
		"macro m(x,x) = x + y;":   "p::m(x,x) = binary +@15(name x@15, name q::y@19)",
		"macro m(w,z) = w.z+z.w;": "p::m(w,z) = binary +@15(dot z@15(name w@15), dot w@19(name z@19))",
		// names
		"macro m() = x;":                         "p::m() = name p::x@12",
		"macro m() = w;":                         "p::m() = name ::w@12",
		"macro m() = z;":                         "p::m() = name ::z@12",
		"macro m(x) = x + y;":                    "p::m(x) = binary +@13(name x@13, name q::y@17)",
		"macro m(w) = w + z + n + m;":            "p::m(w) = binary +@13(binary +@13(binary +@13(name w@13, name ::z@17), name p::n@21), name ::m@25)",
		"macro m(X) = x;":                        "p::m(X) = name p::x@13",
		"macro m(x) = if x { y } else { -w };":   "p::m(x) = if @13(name x@16, block @18(name q::y@20), block @29(unary -@31(name ::w@32)))",
		"macro m(x) = f(x,f(y),g(w,z));":         "p::m(x) = call p::f@13(name x@15, call p::f@17(name q::y@19), call ::g@22(name ::w@24, name ::z@26))",
		"macro m(x) = { while x { print y; } };": "p::m(x) = block @13(while @15(name x@21, block @23(print @25(name q::y@31), unit @34)), unit @36)",
		// what is called, made or expanded is no parameter
		"macro m(f) = f(f);":     "p::m(f) = call p::f@13(name f@15)",
		"macro m(w) = w(w);":     "p::m(w) = call ::w@13(name w@15)",
		"macro m(z) = z();":      "p::m(z) = call ::z@13",
		"macro m() = x();":       "p::m() = call p::x@12",
		"macro m(f) = new f(f);": "p::m(f) = new p::f@13(name f@19)",
		"macro m(w) = new w(w);": "p::m(w) = new ::w@13(name w@19)",
		"macro m(z) = new z();":  "p::m(z) = new ::z@13",
		"macro m() = new x();":   "p::m() = new p::x@12",
		"macro m(f) = f!(f);":    "p::m(f) = expand p::f@13(name f@16)",
		"macro m(w) = w!(w);":    "p::m(w) = expand ::w@13(name w@16)",
		"macro m(z) = z!();":     "p::m(z) = expand ::z@13",
		"macro m() = x!();":      "p::m() = expand p::x@12",
		"macro m() = m!();":      "p::m() = expand ::m@12",
		// variables, also where they are not known
		"macro m() = { let x = 1; x };":                "p::m() = block @12(let x@14(int 1@22), name x@25)",
		"macro m() = { let x = x; y };":                "p::m() = block @12(let x@14(name x@22), name q::y@25)",
		"macro m() = x + { let x = 1; y } + x;":        "p::m() = binary +@12(binary +@12(name x@12, block @16(let x@18(int 1@26), name q::y@29)), name x@35)",
		"macro m() = { { let w = z; }; w };":           "p::m() = block @12(do @14(block @14(let w@16(name ::z@24), unit @27)), name w@30)",
		"macro m(x) = { let x = x; x };":               "p::m(x) = block @13(let x@15(name x@23), name x@26)",
		"macro m(x) = { let y = x; let x = y; x };":    "p::m(x) = block @13(let y@15(name x@23), let x@26(name y@34), name x@37)",
		"macro m() = { let f = f(f); new f(f) };":      "p::m() = block @12(let f@14(call p::f@22(name f@24)), new p::f@28(name f@34))",
		"macro m() = { let w = w!(w); w() };":          "p::m() = block @12(let w@14(expand ::w@22(name w@25)), call ::w@29)",
		"macro m() = { let x = { let y = 1; y }; z };": "p::m() = block @12(let x@14(block @22(let y@24(int 1@32), name y@35)), name ::z@40)",
		"macro m() = f({ let x = 1; x }, x);":          "p::m() = call p::f@12(block @14(let x@16(int 1@24), name x@27), name x@32)",
		"macro m() = n!({ let x = 1; }) + x;":          "p::m() = binary +@12(expand p::n@12(block @15(let x@17(int 1@25), unit @28)), name x@33)",
		// assignments
		"macro m() = { x = 1; };":                   "p::m() = block @12(assign ::x@14(int 1@18), unit @21)",
		"macro m() = { w = x; };":                   "p::m() = block @12(assign ::w@14(name p::x@18), unit @21)",
		"macro m() = { z = z; };":                   "p::m() = block @12(assign ::z@14(name ::z@18), unit @21)",
		"macro m(x) = { x = x; x };":                "p::m(x) = block @13(assign ::x@15(name x@19), name x@22)",
		"macro m() = { let x = 1; x = 2; };":        "p::m() = block @12(let x@14(int 1@22), assign x@25(int 2@29), unit @32)",
		"macro m() = { x = y; let x = 1; y = x; };": "p::m() = block @12(assign x@14(name q::y@18), let x@21(int 1@29), assign ::y@32(name x@36), unit @39)",
		"macro m(x) = { let x = 1; x = x; };":       "p::m(x) = block @13(let x@15(int 1@23), assign x@26(name x@30), unit @33)",
		"macro m() = { x = { let y = 1; y }; };":    "p::m() = block @12(assign ::x@14(block @18(let y@20(int 1@28), name y@31)), unit @36)",
	} {
		m := macros.Prepare("p::m", item(t, text), binds(known))
		if got := showMacro(m); got != want {
			t.Errorf("%s: %s", text, got)
		}
	}
}

// The macro has the Def that is given, and what Lookup finds, whatever these are.
func TestPrepareTakesDefinitionsAsTheyAre(t *testing.T) {
	b := []api.Bind{{Name: "x", Def: ""}, {Name: "y", Def: "x"}, {Name: "f", Def: "a b"}, {Name: "z", Def: "::z"}, {Name: "a", Def: "p::a"}, {Name: "a", Def: "p::a"}, {Name: "a::b", Def: "c"}}
	m := macros.Prepare("", item(t, "macro m(p) = f(x, y, z, a, p);"), b)
	if got := showMacro(m); got != "(p) = call a b@13(name @15, name x@18, name ::z@21, name p::a@24, name p@27)" {
		t.Errorf("definitions of any form: %s", got)
	}
	for text, want := range map[string]string{"": "::", "::": "::::", "::x": "::::x", "a::b": "c", "b::a": "::b::a", "a": "p::a"} {
		body := tree(api.KBlock, "", 3, tree(api.KName, text, 4), tree(api.KCall, text, 5), tree(api.KNew, text, 6), tree(api.KExpand, text, 7), tree(api.KAssign, text, 8))
		m := macros.Prepare("q::r::s", tree(api.KMacro, "m", 1, tree(api.KArgs, "", 2), body), b)
		all := "q::r::s() = block @3(name " + want + "@4, call " + want + "@5, new " + want + "@6, expand " + want + "@7, assign ::" + text + "@8)"
		if got := showMacro(m); got != all {
			t.Errorf("the Text %q: %s", text, got)
		}
	}
}

// Each kind that has a name, with each way in which this name can be known.
func TestPrepareOfEachKind(t *testing.T) {
	for _, c := range []struct{ text, asName, asOther, asAssign string }{
		{"p1", "p1", "::p1", "::p1"},               // a parameter
		{"x", "x", "p::x", "::x"},                  // a parameter that is found
		{"z", "z", "::z", "::z"},                   // a parameter that is found several times
		{"v", "v", "::v", "v"},                     // a variable
		{"y", "y", "q::y", "y"},                    // a variable that is found
		{"b", "b", "::b", "b"},                     // a parameter and variable
		{"a", "p::a", "p::a", "::a"},               // found
		{"w", "::w", "::w", "::w"},                 // found by nothing
		{"twice", "::twice", "::twice", "::twice"}, // found several times
		{"same", "p::same", "p::same", "::same"},   // found in two equal binds
		{"V", "::V", "::V", "::V"},
		{"v#1", "::v#1", "::v#1", "::v#1"},
		{"", "::", "::", "::"},
	} {
		b := append(binds(known+",twice=p::t,twice=p::u,same=p::same,same=p::same"), binds("twice=p::t")...)
		for kind, want := range map[int]string{
			api.KName: c.asName, api.KCall: c.asOther, api.KNew: c.asOther, api.KExpand: c.asOther, api.KAssign: c.asAssign,
			// all other kinds stay as they are
			api.KInt: c.text, api.KBool: c.text, api.KDot: c.text, api.KUnary: c.text, api.KBinary: c.text, api.KBlock: c.text, api.KLocal: c.text,
			api.KGlobal: c.text, api.KBad: c.text, api.KTypeOf: c.text, api.KParam: c.text, api.KArg: c.text, api.KFn: c.text, 0: c.text, -1: c.text, 99: c.text,
		} {
			body := tree(api.KIf, "", 1, tree(kind, c.text, 2, tree(api.KUnit, "", 3)), tree(api.KLet, "v", 4, name("p1")), tree(api.KLet, "y", 5), tree(api.KLet, "b", 6))
			in := tree(api.KMacro, "", 7, tree(api.KArgs, "", 8, name("p1"), name("x"), name("z"), name("b")), body)
			body.Kids[0].Text = want
			want := "d::e(p1,x,z,b) = " + show(body)
			body.Kids[0].Text = c.text
			if got := showMacro(macros.Prepare("d::e", in, b)); got != want {
				t.Errorf("%s %q: %s", word(kind), c.text, got)
			}
		}
	}
}

// Nodes below any node are changed, also where the parser returns none.
func TestPrepareChangesAllNodes(t *testing.T) {
	for kind := -1; kind <= 41; kind++ {
		in := tree(api.KMacro, "m", 0, tree(api.KArgs, "", 0, name("p")), tree(kind, "f", 0, name("x"), tree(kind, "f", 0, name("y"), name("p"), name("v")), tree(api.KLet, "v", 0)))
		m := macros.Prepare("d", in, binds(known))
		var got []string
		for _, n := range append(slices.Clone(m.Body.Kids), m.Body.Kids[1].Kids...) {
			got = append(got, n.Text)
		}
		f := map[bool]string{true: "p::f", false: "f"}[kind == api.KName || kind == api.KCall || kind == api.KNew || kind == api.KExpand]
		if kind == api.KAssign {
			f = "::f"
		}
		if want := []string{"p::x", f, "v", "q::y", "p", "v"}; m.Body.Text != f || !slices.Equal(got, want) {
			t.Errorf("the kind %d: %q below %q", kind, got, m.Body.Text)
		}
	}
}

func TestPrepareOfOtherTrees(t *testing.T) {
	args := tree(api.KArgs, "", 0, name("x"), name("y"))
	one := tree(api.KInt, "1", 0)
	mixed := func(kind int) api.Tree { return tree(api.KArgs, "", 0, name("x"), tree(kind, "y", 0), name("z")) }
	for _, in := range []api.Tree{
		{}, one, tree(api.KMacro, "m", 5), tree(api.KMacro, "m", 5, args), tree(api.KMacro, "m", 5, one),
		tree(api.KMacro, "m", 5, args, one, one), tree(api.KMacro, "m", 5, args, args, args, one),
		tree(api.KMacro, "m", 5, one, args), tree(api.KMacro, "m", 5, one, one), tree(api.KMacro, "m", 5, name("x"), one),
		tree(api.KMacro, "m", 5, tree(api.KParams, "", 0, name("x")), one), tree(api.KMacro, "m", 5, tree(api.KBlock, "", 0), one),
		tree(api.KMacro, "m", 5, mixed(api.KArg), one), tree(api.KMacro, "m", 5, mixed(api.KInt), one), tree(api.KMacro, "m", 5, mixed(0), one),
		tree(api.KMacro, "m", 5, tree(api.KArgs, "", 0, one), one), tree(api.KMacro, "m", 5, tree(api.KArgs, "", 0, name("x"), args), one),
		tree(api.KFn, "m", 5, args, one), tree(api.KBlock, "m", 5, args, one), tree(api.KMacro+1, "m", 5, args, one), tree(api.KMacro-1, "m", 5, args, one), tree(0, "m", 5, args, one),
		item(t, "fn m() { 1 }"), item(t, "const m: int = 1;"), item(t, "trait m { }"), item(t, "use m;"), item(t, "type m { }"), item(t, "impl m for m { }"),
	} {
		m := macros.Prepare("p::m", in, binds(known))
		if got := showMacro(m); got != "p::m() = unit @0" {
			t.Errorf("%s: %s", show(in), got)
		}
	}
	for _, in := range []api.Tree{
		tree(api.KMacro, "", 0, tree(api.KArgs, "t", 3), one), tree(api.KMacro, "", -7, tree(api.KArgs, "", -1, tree(api.KName, "x", 9, one, one)), one),
		tree(api.KMacro, "m", 5, args, args), tree(api.KMacro, "m", 5, args, tree(0, "", 0)), tree(api.KMacro, "m", 5, args, tree(api.KMacro, "m", 5, args, one)),
	} {
		m := macros.Prepare("p::m", in, nil)
		if len(m.Params) != len(in.Kids[0].Kids) || m.Body.Kind != in.Kids[1].Kind {
			t.Errorf("%s: %s", show(in), showMacro(m))
		}
	}
}
