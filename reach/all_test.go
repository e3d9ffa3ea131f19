package reach_test

import (
	"testing"

	"recompile/api"
	"recompile/reach"
)

func checkAll(t *testing.T, l []api.Face, want [][]string) {
	t.Helper()
	if got := reach.All(l); !equal(got, want) {
		t.Errorf("All of %s: %q, expected %q", show(l), got, want)
	}
}

func TestAll(t *testing.T) {
	for text, want := range map[string]string{
		// the example
		// one face
		"f:":              "",
		"f: g":            "g",
		"f: g h":          "g h",
		"f: h g":          "g h",
		"f: g g g":        "g",
		"f: i g h g i g":  "g h i",
		"f: f":            "f",
		"f: f f":          "f",
		"f: g f a":        "a f g",
		"f: ff F p::f":    "F ff p::f",
		"f: -":            "-",
		"f: g - g -":      "- g",
		"p::f<int>: p::f": "p::f",
		// faces that nobody calls
		"f:; g:; h:":             ";;",
		"f: a; g: b; h:":         "a; b;",
		"f: a; g: a":             "a; a",
		"f: b a c; g: d b; h: e": "a b c; b d; e",
		// ways
		"f: g; g:":                           "g;",
		"g:; f: g":                           "; g",
		"f: g; g: h":                         "g h; h",
		"f: g; g: b a":                       "a b g; a b",
		"f: g; g: h; h: i; i:":               "g h i; h i; i;",
		"i:; h: i; g: h; f: g":               "; i; h i; g h i",
		"g: h; i:; f: g; h: i":               "h i;; g h i; i",
		"f: g; g: h; h: none":                "g h none; h none; none",
		"f: none g; g: other":                "g none other; other",
		"f: z g a; g: y h b; h: x i c; i: w": "a b c g h i w x y z; b c h i w x y; c i w x; w",
		// ways that meet again
		"f: g h; g: i; h: i; i: x":           "g h i x; i x; i x; x",
		"f: g h; g: i; h: i; i:":             "g h i; i; i;",
		"f: g i; g: h; h: i; i: x":           "g h i x; h i x; i x; x",
		"f: i g; i: x; g: h; h: i":           "g h i x; x; h i x; i x",
		"f: g h i; g: h i; h: i; i: x":       "g h i x; h i x; i x; x",
		"f: i h g; g: i h; h: i; i: x":       "g h i x; h i x; i x; x",
		"f: g; h: g; g: x":                   "g x; g x; x",
		"f: x; g: x; h: f g":                 "x; x; f g x",
		"f: g h; g: x; h: y":                 "g h x y; x; y",
		"f: a b; a: c d; b: d c; c: e; d: e": "a b c d e; c d e; c d e; e; e",
		// rings
		"f: f; g:":                         "f;",
		"f: f g; g:":                       "f g;",
		"f: f g; g: g":                     "f g; g",
		"f: g; g: f":                       "f g; f g",
		"f: g; g: h; h: f":                 "f g h; f g h; f g h",
		"f: g; g: h; h: i; i: f":           "f g h i; f g h i; f g h i; f g h i",
		"f: h; g: f; h: g":                 "f g h; f g h; f g h",
		"f: g x; g: h y; h: f z":           "f g h x y z; f g h x y z; f g h x y z",
		"f: g; g: f h; h: g":               "f g h; f g h; f g h",
		"f: g; g: h; h: g":                 "g h; g h; g h",
		"f: g; g: f x":                     "f g x; f g x",
		"e: f; f: g; g: f; x: e":           "f g; f g; f g; e f g",
		"f: g; g: f h; h: i; i: h":         "f g h i; f g h i; h i; h i",
		"h: i; i: h; f: g; g: f h":         "h i; h i; f g h i; f g h i",
		"f: g h; g: f; h: i; i: h":         "f g h i; f g h i; h i; h i",
		"f: g; g: f; h: i; i: h":           "f g; f g; h i; h i",
		"f: g; g: f; h: f i; i: h":         "f g; f g; f g h i; f g h i",
		"f: h g; g: f; h: x":               "f g h x; f g h x; x",
		"f: g; g: h f; h: f; i: g j; j:":   "f g h; f g h; f g h; f g h j;",
		"f: f g h; g: f g h; h: f g h":     "f g h; f g h; f g h",
		"a: b; b: c; c: a d; d: e; e: d":   "a b c d e; a b c d e; a b c d e; d e; d e",
		"a: b; b: c d; c: a; d: b; e: c":   "a b c d; a b c d; a b c d; a b c d; a b c d",
		"a: b c; b: d; c: d; d: a":         "a b c d; a b c d; a b c d; a b c d",
		"a: b e; b: c; c: d b; d: e; e: f": "b c d e f; b c d e f; b c d e f; e f; f",
		// the empty string is a symbol like any other
		"f: -; -: g":       "- g; g",
		"f: - g; -: f":     "- f g; - f g",
		"-: -":             "-",
		"-: x; f: y; g: -": "x; y; - x",
	} {
		checkAll(t, faces(text), lists(want))
	}
	for _, l := range [][]api.Face{nil, {}} {
		checkAll(t, l, nil)
	}
}

// Of several faces with one Module the first one counts for those that call it, and each one has a list of its own.
func TestAllOfFacesWithOneModule(t *testing.T) {
	for text, want := range map[string]string{
		"f: x; f: y":                   "x; y",
		"f: x; f:":                     "x;",
		"f:; f: y":                     "; y",
		"f: x; f: x":                   "x; x",
		"f: x; f: y; g: f":             "x; y; f x",
		"g: f; f: x; f: y":             "f x; x; y",
		"f: x; g: f; f: y":             "x; f x; y",
		"f:; f: y; g: f":               "; y; f",
		"f: y; f:; g: f":               "y;; f y",
		"f: x; f: y; f: z; g: f":       "x; y; z; f x",
		"f: x; f: f":                   "x; f x",
		"f: x; f: y f":                 "x; f x y",
		"f: f; f: y":                   "f; y",
		"f: f; f: y f":                 "f; f y",
		"f: g; f: x; g: f":             "f g; x; f g",
		"f: g; g: f; f: x":             "f g; f g; x",
		"f: g; g: f; f: h; h: f":       "f g; f g; f g h; f g",
		"f: h; f: g; g: f; h:":         "h; f g h; f h;",
		"f: x; f: g; g: f; g: y":       "x; f g x; f x; y",
		"f: g; g: x; g: h; h: f g":     "g x; x; f g h x; f g x",
		"f: g; f: g; g: h; g: f; h: g": "g h; g h; g h; f g h; g h",
		"-: x; -: y; f: -":             "x; y; - x",
	} {
		checkAll(t, faces(text), lists(want))
	}
}

// Without a face for it, a symbol reaches nothing, whatever its name has in common with others.
func TestAllOfSymbolsWithoutFaces(t *testing.T) {
	for text, want := range map[string]string{
		"f: g; G: x":                   "g; x",
		"f: g; gg: x":                  "g; x",
		"f: gg; g: x":                  "gg; x",
		"f: p::g; g: x; p: y; p::: z":  "p::g; x; y; z",
		"f: g<int>; g: x; g<bool>: y":  "g<int>; x; y",
		"f: g; g<int>: x; -: y; :g: z": "g; x; y; z",
	} {
		checkAll(t, faces(text), lists(want))
	}
}

func TestAllOfOtherStrings(t *testing.T) {
	checkAll(t, []api.Face{{Module: "f", Own: []string{"\xff", "é", "\x80", "z", "a", "\x00", ""}}}, [][]string{{"", "\x00", "a", "z", "\x80", "é", "\xff"}})
	checkAll(t, []api.Face{{Module: "\xff", Own: []string{"\xfe"}}, {Module: "\xfe", Own: []string{"\ufffd"}}, {Module: "\ufffd", Own: []string{"x"}}}, [][]string{{"x", "\ufffd", "\xfe"}, {"x", "\ufffd"}, {"x"}})
	checkAll(t, []api.Face{{Module: "a b", Own: []string{"b a"}}, {Module: "b a", Own: []string{"a", "b"}}, {Module: "a", Own: []string{"a b"}}}, [][]string{{"a", "a b", "b", "b a"}, {"a", "a b", "b", "b a"}, {"a", "a b", "b", "b a"}})
	d := &dice{164}
	l := []api.Face{{Module: "first", Own: []string{"second"}}, {Module: "second", Own: ordered}}
	for range 100 {
		l[1].Own = shuffled(d, ordered)
		checkAll(t, l, [][]string{inserted(append([]string{"second"}, ordered...)), ordered})
	}
}

// The Pub of a face does not matter.
func TestAllDoesNotDependOnPub(t *testing.T) {
	checkAll(t, []api.Face{{Module: "f", Pub: []string{"g", "x"}}, {Module: "g", Own: []string{"h"}, Pub: []string{"f"}}}, [][]string{{}, {"h"}})
	d := &dice{165}
	for range 3000 {
		l := d.faces(7, 7, 4)
		want := reach.All(l)
		for i := range l {
			l[i].Pub = d.some(few, 5)
		}
		checkAll(t, l, want)
	}
}
