package reach_test

import (
	"math"
	"slices"
	"strconv"
	"testing"

	"recompile/api"
	"recompile/reach"
)

func checkCalls(t *testing.T, c api.Code, want ...string) {
	t.Helper()
	if got := reach.Calls(c); !slices.Equal(got, want) {
		t.Errorf("%+v calls %q, expected %q", c, got, want)
	}
}

func TestCalls(t *testing.T) {
	checkCalls(t, api.Code{})
	checkCalls(t, api.Code{Params: 3, Regs: 5, Ops: []api.Op{}})
	for syms, want := range map[string]string{
		"-":             "",
		"- - -":         "",
		"f":             "f",
		"f f f":         "f",
		"f g":           "f g",
		"g f":           "f g",
		"g f g f f g":   "f g",
		"- f":           "f",
		"f -":           "f",
		"g - f - - g":   "f g",
		"c b a b c d a": "a b c d",
		"ff f fff":      "f ff fff",
		"f F":           "F f",
	} {
		checkCalls(t, calling(words(syms)...), words(want)...)
	}
}

// Symbols in other operations are no calls, whether there is such a kind or not.
func TestCallsOfOtherOperations(t *testing.T) {
	kinds := []int{math.MinInt, -1 << 32, -14, -1, api.OpCall + 1<<32, api.OpCall + 1<<8, 100, 1 << 40, math.MaxInt}
	for kind := range 60 {
		kinds = append(kinds, kind)
	}
	for _, kind := range kinds {
		other := api.Op{Kind: kind, Sym: "other"}
		want := []string{"f", "g"}
		if kind == api.OpCall {
			want = []string{"f", "g", "other"}
		}
		c := calling("g", "f")
		for at := range 3 {
			c.Ops = slices.Insert(c.Ops, 2*at, other)
			checkCalls(t, c, want...)
		}
		checkCalls(t, api.Code{Ops: []api.Op{other}}, want[2:]...)
		// a symbol that is also called is a call
		c.Ops = append(c.Ops, api.Op{Kind: kind, Sym: "g"})
		checkCalls(t, c, want...)
	}
}

// Calls are calls wherever they stand and whatever else an operation has, also where no run comes to them.
func TestCallsOfAnyCode(t *testing.T) {
	for _, n := range []int{math.MinInt, -1, 0, 1, 2, 7, math.MaxInt} {
		for _, list := range [][]int{nil, {}, {0}, {-1, n}, {5, 5, 5}} {
			c := api.Code{Params: n, Regs: -n, Ops: []api.Op{
				{Kind: api.OpJump, C: 2},
				{Kind: api.OpCall, A: n, B: n, C: n, List: list, Sym: "passed"},
				{Kind: api.OpReturn},
				{Kind: api.OpCall, List: list, Sym: "behind"},
			}}
			checkCalls(t, c, "behind", "passed")
		}
	}
	checkCalls(t, api.Code{Ops: []api.Op{{Kind: api.OpReturn}, {Kind: api.OpCall, Sym: "f"}}}, "f")
	checkCalls(t, api.Code{Ops: []api.Op{{Kind: api.OpCall, Sym: "f"}, {Kind: api.OpReturn}}}, "f")
}

func TestOrderOfCalls(t *testing.T) {
	d := &dice{161}
	checkCalls(t, calling(ordered...), ordered...)
	for range 200 {
		checkCalls(t, calling(shuffled(d, slices.Concat(ordered, ordered[:20]))...), ordered...)
	}
	for i, a := range ordered {
		for _, b := range ordered[i+1:] {
			checkCalls(t, calling(a, b), a, b)
			checkCalls(t, calling(b, a), a, b)
		}
	}
}

func TestManyCalls(t *testing.T) {
	var syms, want []string
	for i := range 20000 {
		syms = append(syms, strconv.Itoa(15000-i%5000))
	}
	for i := range 5000 {
		want = append(want, strconv.Itoa(10001+i))
	}
	checkCalls(t, calling(syms...), want...)
}
