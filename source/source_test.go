package source_test

import (
	"math"
	"slices"
	"strings"
	"testing"

	"recompile/api"
	"recompile/source"
)

func module(name, text string) api.Source { return api.Source{Name: name, Text: text} }

func three() []api.Source {
	return []api.Source{module("b", "one\ntwo"), module("d", ""), module("f", "three")}
}

func full() string { return strings.Repeat("x", api.MaxText) }

// notValid returns sources that are not valid, each for another reason.
func notValid() [][]api.Source {
	return [][]api.Source{
		{module("", "")},
		{module("9", "")},
		{module("a-b", "")},
		{module("b", ""), module("c ", "")},
		{module(strings.Repeat("a", 41), "")},
		{module("a", full()+"x")},
		{module("a", ""), module("b", full()+"x")},
		{module("b", ""), module("a", "")},
		{module("b", "1"), module("b", "2")},
		{module("b", "1"), module("b", "1")},
		{module("a", ""), module("b", ""), module("c", ""), module("c", "")},
		{module("_", ""), module("Z", "")},
		{module("a1", ""), module("a", "")},
	}
}

func TestCheckValid(t *testing.T) {
	for i, l := range [][]api.Source{
		nil,
		{},
		three(),
		{module("A", ""), module("Z", ""), module("_", ""), module("a", ""), module("z", "")},
		{module("a", ""), module("a0", ""), module("aA", ""), module("a_", ""), module("aa", ""), module("b", "")},
		{module(strings.Repeat("_", 40), "\x00\xff")},
		{module("a", full()), module("b", full())},
	} {
		if e := source.Check(l); e != api.OK {
			t.Errorf("sources %d: %v", i, e)
		}
	}
}

func TestCheckNotValid(t *testing.T) {
	for i, l := range notValid() {
		if e := source.Check(l); e != api.ErrInvalid {
			t.Errorf("sources %d: %v", i, e)
		}
	}
}

func TestCheckEveryByteOfANameCounts(t *testing.T) {
	const letters = "ABCDEFGHIJKLMNOPQRSTUVWXYZ_abcdefghijklmnopqrstuvwxyz"
	const digits = "0123456789"
	for c := range 256 {
		s := string([]byte{byte(c)})
		letter, digit := strings.Contains(letters, s), strings.Contains(digits, s)
		if got := source.Check([]api.Source{module(s+"a", "")}) == api.OK; got != letter {
			t.Errorf("byte %d at the beginning: %v", c, got)
		}
		for _, name := range []string{"a" + s + "a", "a" + s, strings.Repeat("a", 39) + s} {
			if got := source.Check([]api.Source{module(name, "")}) == api.OK; got != (letter || digit) {
				t.Errorf("byte %d in %q: %v", c, name, got)
			}
		}
	}
}

func TestCheckLengthOfANameInBytes(t *testing.T) {
	for n := range 100 {
		got := source.Check([]api.Source{module(strings.Repeat("n", n), "")})
		if want := n >= 1 && n <= 40; (got == api.OK) != want {
			t.Errorf("a name of %d bytes: %v", n, got)
		}
	}
}

func TestFind(t *testing.T) {
	twice := []api.Source{module("c", "first"), module("a", ""), module("c", "second"), module("", "no name")}
	for _, c := range []struct {
		l          []api.Source
		name, want string
		ok         bool
	}{
		{three(), "b", "one\ntwo", true},
		{three(), "d", "", true},
		{three(), "f", "three", true},
		{three(), "c", "", false},
		{three(), "B", "", false},
		{three(), "", "", false},
		{nil, "b", "", false},
		{twice, "c", "first", true},
		{twice, "a", "", true},
		{twice, "", "no name", true},
	} {
		if got, ok := source.Find(c.l, c.name); got != c.want || ok != c.ok {
			t.Errorf("Find %q: %q, %v", c.name, got, ok)
		}
	}
}

func TestPut(t *testing.T) {
	l := three()
	for _, c := range []struct {
		l    []api.Source
		s    api.Source
		want []api.Source
	}{
		{nil, module("a", "x"), []api.Source{module("a", "x")}},
		{l, module("a", "x"), []api.Source{module("a", "x"), l[0], l[1], l[2]}},
		{l, module("b", "x"), []api.Source{module("b", "x"), l[1], l[2]}},
		{l, module("b0", "x"), []api.Source{l[0], module("b0", "x"), l[1], l[2]}},
		{l, module("d", "x"), []api.Source{l[0], module("d", "x"), l[2]}},
		{l, module("e", "x"), []api.Source{l[0], l[1], module("e", "x"), l[2]}},
		{l, module("f", ""), []api.Source{l[0], l[1], module("f", "")}},
		{l, module("g", "x"), []api.Source{l[0], l[1], l[2], module("g", "x")}},
		{l, module("Z", "x"), []api.Source{module("Z", "x"), l[0], l[1], l[2]}},
		{l, module("d", full()), []api.Source{l[0], module("d", full()), l[2]}},
		{l, module(strings.Repeat("z", 40), ""), []api.Source{l[0], l[1], l[2], module(strings.Repeat("z", 40), "")}},
	} {
		got, e := source.Put(c.l, c.s)
		if e != api.OK || !slices.Equal(got, c.want) || source.Check(got) != api.OK {
			t.Errorf("Put of %q: %v, %v", c.s.Name, got, e)
		}
	}
}

func TestPutOfWhatIsNotPermitted(t *testing.T) {
	for _, s := range []api.Source{
		module("", ""), module("0", ""), module("a b", ""), module("d.", ""), module("ä", ""),
		module(strings.Repeat("a", 41), ""), module("a", full()+"x"), module("d", full()+"x"), module("", full()+"x"),
	} {
		if got, e := source.Put(three(), s); e != api.ErrRange || !slices.Equal(got, three()) {
			t.Errorf("Put of %q with %d bytes: %v, %v", s.Name, len(s.Text), got, e)
		}
	}
}

func TestDrop(t *testing.T) {
	l := three()
	for _, c := range []struct {
		name string
		want []api.Source
	}{{"b", l[1:]}, {"d", []api.Source{l[0], l[2]}}, {"f", l[:2]}} {
		got, e := source.Drop(l, c.name)
		if e != api.OK || !slices.Equal(got, c.want) {
			t.Errorf("Drop of %q: %v, %v", c.name, got, e)
		}
	}
	if got, e := source.Drop(l[:1], "b"); e != api.OK || len(got) != 0 {
		t.Errorf("Drop of the only module: %v, %v", got, e)
	}
	for _, name := range []string{"a", "c", "g", "B", "", "0", strings.Repeat("a", 41)} {
		if got, e := source.Drop(l, name); e != api.ErrUnknown || !slices.Equal(got, l) {
			t.Errorf("Drop of %q: %v, %v", name, got, e)
		}
	}
	if got, e := source.Drop(nil, "a"); e != api.ErrUnknown || len(got) != 0 {
		t.Errorf("Drop from nothing: %v, %v", got, e)
	}
}

func TestApply(t *testing.T) {
	for _, c := range []struct {
		e    api.Edit
		want string
	}{
		{api.Edit{Module: "f"}, "three"},
		{api.Edit{Module: "f", Text: "x"}, "xthree"},
		{api.Edit{Module: "f", At: 2, Text: "xy"}, "thxyree"},
		{api.Edit{Module: "f", At: 5, Text: "x"}, "threex"},
		{api.Edit{Module: "f", At: 1, Count: 3}, "te"},
		{api.Edit{Module: "f", At: 1, Count: 4, Text: "x"}, "tx"},
		{api.Edit{Module: "f", Count: 5}, ""},
		{api.Edit{Module: "f", Count: 5, Text: full()}, full()},
		{api.Edit{Module: "f", At: 4, Count: 1, Text: full()[4:]}, "thre" + full()[4:]},
	} {
		want := []api.Source{three()[0], three()[1], module("f", c.want)}
		got, e := source.Apply(three(), c.e)
		if e != api.OK || !slices.Equal(got, want) {
			t.Errorf("Apply at %d, %d: %v, %v", c.e.At, c.e.Count, got, e)
		}
	}
	got, e := source.Apply(three(), api.Edit{Module: "d", Text: "x"})
	if want := []api.Source{three()[0], module("d", "x"), three()[2]}; e != api.OK || !slices.Equal(got, want) {
		t.Errorf("Apply to an empty text: %v, %v", got, e)
	}
}

func TestApplyErrors(t *testing.T) {
	for _, c := range []struct {
		e    api.Edit
		want api.Errno
	}{
		{api.Edit{Module: "a"}, api.ErrUnknown},
		{api.Edit{Module: ""}, api.ErrUnknown},
		{api.Edit{Module: "0", At: -1, Count: -1, Text: full() + "x"}, api.ErrUnknown},
		{api.Edit{Module: "f", At: -1}, api.ErrRange},
		{api.Edit{Module: "f", At: -1, Count: 1}, api.ErrRange},
		{api.Edit{Module: "f", Count: -1}, api.ErrRange},
		{api.Edit{Module: "f", At: 3, Count: -1}, api.ErrRange},
		{api.Edit{Module: "f", At: 6}, api.ErrRange},
		{api.Edit{Module: "f", At: 6, Count: -1}, api.ErrRange},
		{api.Edit{Module: "f", At: 5, Count: 1}, api.ErrRange},
		{api.Edit{Module: "f", Count: 6}, api.ErrRange},
		{api.Edit{Module: "f", At: math.MaxInt, Count: math.MaxInt}, api.ErrRange},
		{api.Edit{Module: "f", At: 1, Count: math.MaxInt}, api.ErrRange},
		{api.Edit{Module: "f", At: math.MinInt, Count: math.MinInt}, api.ErrRange},
		{api.Edit{Module: "f", At: 6, Text: full()}, api.ErrRange},
		{api.Edit{Module: "f", At: -1, Text: full() + "x"}, api.ErrRange},
		{api.Edit{Module: "f", Count: 6, Text: full() + "x"}, api.ErrRange},
		{api.Edit{Module: "f", Count: 5, Text: full() + "x"}, api.ErrLimit},
		{api.Edit{Module: "f", Count: 4, Text: full()}, api.ErrLimit},
		{api.Edit{Module: "f", At: 5, Text: full()[4:]}, api.ErrLimit},
		{api.Edit{Module: "f", At: 5, Text: full()[5:]}, api.OK},
	} {
		got, e := source.Apply(three(), c.e)
		if e != c.want || e != api.OK && !slices.Equal(got, three()) {
			t.Errorf("Apply to %q at %d, %d: %v, expected %v", c.e.Module, c.e.At, c.e.Count, e, c.want)
		}
	}
}

// changes are calls that would succeed, and calls that would fail for every reason there is.
func changes() []func([]api.Source) ([]api.Source, api.Errno) {
	put := func(s api.Source) func([]api.Source) ([]api.Source, api.Errno) {
		return func(l []api.Source) ([]api.Source, api.Errno) { return source.Put(l, s) }
	}
	drop := func(name string) func([]api.Source) ([]api.Source, api.Errno) {
		return func(l []api.Source) ([]api.Source, api.Errno) { return source.Drop(l, name) }
	}
	apply := func(e api.Edit) func([]api.Source) ([]api.Source, api.Errno) {
		return func(l []api.Source) ([]api.Source, api.Errno) { return source.Apply(l, e) }
	}
	return []func([]api.Source) ([]api.Source, api.Errno){
		put(module("a", "")), put(module("b", "x")), put(module("g", "x")), put(module("1", "")), put(module("b", full()+"x")),
		drop("b"), drop("f"), drop("c"), drop(""),
		apply(api.Edit{Module: "b", Text: "x"}), apply(api.Edit{Module: "f", Text: "x"}), apply(api.Edit{Module: "c"}),
		apply(api.Edit{Module: "b", At: -1}), apply(api.Edit{Module: "b", Text: full()}),
	}
}

func TestSourcesThatAreNotValidComeBack(t *testing.T) {
	for i, l := range notValid() {
		before := slices.Clone(l)
		for k, change := range changes() {
			got, e := change(l)
			if e != api.ErrInvalid || !slices.Equal(got, before) || !slices.Equal(l, before) {
				t.Errorf("sources %d, change %d: %v", i, k, e)
			}
		}
	}
}

func TestArgumentsAndResultsShareNothing(t *testing.T) {
	for i, l := range append(notValid(), three()) {
		for k, change := range changes() {
			// The element behind the list would be written by an append to it.
			whole := append(slices.Clone(l), module("behind", "it"))
			before := slices.Clone(whole)
			got, _ := change(whole[:len(l)])
			for n := range got {
				got[n] = module("over", "written")
			}
			_ = append(got, module("over", "written"))
			if !slices.Equal(whole, before) {
				t.Errorf("sources %d, change %d: the argument is now %v", i, k, whole)
			}
		}
	}
}

func TestSourcesStayValid(t *testing.T) {
	for i := range changes() {
		for k := range changes() {
			l := three()
			for _, change := range []int{i, k, i} {
				l, _ = changes()[change](l)
				if source.Check(l) != api.OK {
					t.Errorf("changes %d and %d: %v", i, k, l)
				}
			}
		}
	}
}

func TestOrderOfDifferentModulesIsFree(t *testing.T) {
	type change func([]api.Source) ([]api.Source, api.Errno)
	of := func(name string) []change {
		return []change{
			func(l []api.Source) ([]api.Source, api.Errno) { return source.Put(l, module(name, "new")) },
			func(l []api.Source) ([]api.Source, api.Errno) { return source.Drop(l, name) },
		}
	}
	names := []string{"a", "b", "c", "d", "e", "f", "g"}
	for i, a := range names {
		for _, b := range names[i+1:] {
			for _, x := range of(a) {
				for _, y := range of(b) {
					l, ex := x(three())
					l, ey := y(l)
					m, fy := y(three())
					m, fx := x(m)
					if !slices.Equal(l, m) || ex != fx || ey != fy {
						t.Errorf("%s and %s: %v, but %v", a, b, l, m)
					}
				}
			}
		}
	}
}
