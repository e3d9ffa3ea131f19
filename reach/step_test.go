package reach_test

import (
	"slices"
	"strconv"
	"strings"
	"testing"

	"recompile/reach"
)

func checkStep(t *testing.T, calls []string, others [][]string, want []string) {
	t.Helper()
	if got := reach.Step(calls, others); !slices.Equal(got, want) {
		t.Errorf("Step of %q with %q: %q, expected %q", calls, others, got, want)
	}
}

func TestStep(t *testing.T) {
	for _, c := range [][3]string{
		// of calls alone
		{"", "", ""},
		{"f", "", "f"},
		{"f g", "", "f g"},
		{"g f", "", "f g"},
		{"f f f", "", "f"},
		{"c b a b c d a", "", "a b c d"},
		{"-", "", "-"},
		{"- -", "", "-"},
		{"f - g", "", "- f g"},
		// of others alone
		{"", ";;", ""},
		{"", "f", "f"},
		{"", "g f", "f g"},
		{"", "f f", "f"},
		{"", "g;f", "f g"},
		{"", "f;f", "f"},
		{"", ";f;;g;", "f g"},
		{"", "-", "-"},
		{"", "f;-;g -", "- f g"},
		{"", "c a;b;a c b;d", "a b c d"},
		// of both
		{"f", "g", "f g"},
		{"g", "f", "f g"},
		{"f", "f", "f"},
		{"f", "f g;g f;f", "f g"},
		{"-", "-;-", "-"},
		{"-", "f", "- f"},
		{"f", "-", "- f"},
		{"b", "c;a", "a b c"},
		{"z b", "y c x;a;w", "a b c w x y z"},
		{"ff f", "fff;F", "F f ff fff"},
	} {
		checkStep(t, words(c[0]), lists(c[1]), words(c[2]))
	}
}

// Nil and empty lists are like lists that are not there.
func TestStepOfEmptyLists(t *testing.T) {
	for _, calls := range [][]string{nil, {}} {
		for _, others := range [][][]string{nil, {}, {nil}, {{}}, {nil, {}, nil}} {
			checkStep(t, calls, others, nil)
			checkStep(t, []string{"b", "a"}, others, []string{"a", "b"})
			checkStep(t, calls, append(slices.Clone(others), []string{"b", "a"}), []string{"a", "b"})
			checkStep(t, calls, append([][]string{{"b", "a"}}, others...), []string{"a", "b"})
		}
	}
}

func TestOrderOfSteps(t *testing.T) {
	d := &dice{162}
	want := append([]string{""}, ordered...)
	for range 300 {
		l := shuffled(d, slices.Concat(want, want))
		a, b := d.roll(len(l)+1), d.roll(len(l)+1)
		checkStep(t, l[:min(a, b)], [][]string{l[min(a, b):max(a, b)], nil, l[max(a, b):]}, want)
	}
	for i, a := range want {
		for _, b := range want[i+1:] {
			checkStep(t, []string{a}, [][]string{{b}}, []string{a, b})
			checkStep(t, []string{b}, [][]string{{a}}, []string{a, b})
			checkStep(t, nil, [][]string{{b}, {a}}, []string{a, b})
		}
	}
}

// inserted returns strings in their order, each once.
func inserted(l []string) []string {
	var out []string
	for _, s := range l {
		at := 0
		for at < len(out) && strings.Compare(out[at], s) < 0 {
			at++
		}
		if at == len(out) || out[at] != s {
			out = slices.Insert(out, at, s)
		}
	}
	return out
}

func TestGeneratedSteps(t *testing.T) {
	d := &dice{163}
	names := append([]string{""}, ordered...)
	for range 5000 {
		few := names[:1+d.roll(len(names))]
		calls := d.some(few, 6)
		var others [][]string
		for range d.roll(6) {
			others = append(others, d.some(few, 8))
		}
		checkStep(t, calls, others, inserted(slices.Concat(calls, slices.Concat(others...))))
	}
}

func TestStepWithMany(t *testing.T) {
	var calls, want []string
	var others [][]string
	for i := range 5000 {
		name := strconv.Itoa(15000 - i)
		calls = append(calls, name, name)
		others = append(others, []string{name, strconv.Itoa(25000 - i), "x"})
	}
	for i := range 15000 {
		if i < 5000 || i >= 10000 {
			want = append(want, strconv.Itoa(10001+i))
		}
	}
	checkStep(t, calls, others, append(want, "x"))
}

func TestRecursive(t *testing.T) {
	for _, c := range []struct {
		sym, reach string
		want       bool
	}{
		{"f", "", false},
		{"f", "f", true},
		{"f", "g", false},
		{"f", "f g h", true},
		{"g", "f g h", true},
		{"h", "f g h", true},
		{"i", "f g h", false},
		{"a", "f g h", false},
		{"f", "f f f", true},
		{"g", "f f f", false},
		// in any order
		{"f", "h g f", true},
		{"h", "h g f", true},
		{"g", "h f g f", true},
		{"i", "h f g f", false},
		// other strings
		{"f", "ff F fg gf p::f", false},
		{"ff", "f g", false},
		{"p::f<int>", "p::f<bool> p::f p::f<p::f<int>>", false},
		{"p::f<int>", "p::f p::f<int>", true},
		{"\xff", "f \xff", true},
		{"\xff", "f \xfe", false},
		// the empty string is one like any other
		{"", "", false},
		{"", "f", false},
		{"", "-", true},
		{"", "f - g", true},
		{"f", "-", false},
	} {
		if got := reach.Recursive(c.sym, words(c.reach)); got != c.want {
			t.Errorf("Recursive of %q with %q: %v", c.sym, c.reach, got)
		}
	}
	for _, l := range [][]string{nil, {}} {
		for _, sym := range []string{"", "f"} {
			if reach.Recursive(sym, l) {
				t.Errorf("%q is recursive without calls", sym)
			}
		}
	}
	for i, sym := range ordered {
		if !reach.Recursive(sym, ordered) || reach.Recursive(sym, slices.Delete(slices.Clone(ordered), i, i+1)) {
			t.Errorf("Recursive of %q is wrong", sym)
		}
	}
}
