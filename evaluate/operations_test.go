package evaluate_test

import (
	"fmt"
	"math"
	"testing"

	"recompile/api"
	"recompile/evaluate"
)

// facts writes what is known of operation k without running it, as "reads [0 1], writes 2, goes to [3]".
func facts(c api.Code, k int) string {
	a, ok := evaluate.Writes(c, k)
	s := fmt.Sprint("reads ", evaluate.Reads(c, k), ", writes ", a, ", goes to ", evaluate.Targets(c, k))
	if !ok && a == 0 {
		s = fmt.Sprint("reads ", evaluate.Reads(c, k), ", writes nothing, goes to ", evaluate.Targets(c, k))
	}
	return s
}

// readFacts writes the same after the second reading.
func readFacts(c api.Code, k int) string {
	if k < 0 || k >= len(c.Ops) || named[c.Ops[k].Kind] == "" {
		return "reads [], writes nothing, goes to []"
	}
	o := c.Ops[k]
	to := []int{k + 1}
	switch o.Kind {
	case api.OpJump:
		to = []int{o.C}
	case api.OpZero:
		to = []int{k + 1, o.C}
	case api.OpReturn:
		to = nil
	}
	written := "nothing"
	if l := names(o, "A"); len(l) > 0 {
		written = fmt.Sprint(l[0])
	}
	return fmt.Sprint("reads ", append([]int{}, names(o, "BCL")...), ", writes ", written, ", goes to ", append([]int{}, to...))
}

func checkFacts(t *testing.T, c api.Code, k int, want string) {
	t.Helper()
	if got := facts(c, k); got != want {
		t.Errorf("operation %d of %+v %s, expected that it %s", k, c, got, want)
	}
	if got := readFacts(c, k); got != want {
		t.Errorf("operation %d of %+v is read so that it %s, expected that it %s", k, c, got, want)
	}
}

func TestFactsOfOperations(t *testing.T) {
	for text, want := range map[string]string{
		"r5 = 7": "reads [], writes 5, goes to [1]", "r5 = r6": "reads [6], writes 5, goes to [1]", "r0 = r0": "reads [0], writes 0, goes to [1]",
		"r5 = r6 + r7": "reads [6 7], writes 5, goes to [1]", "r5 = r7 - r6": "reads [7 6], writes 5, goes to [1]", "r5 = r6 * r6": "reads [6 6], writes 5, goes to [1]", "r5 = r6 / r7": "reads [6 7], writes 5, goes to [1]", "r5 = r7 % r6": "reads [7 6], writes 5, goes to [1]", "r5 = r6 < r7": "reads [6 7], writes 5, goes to [1]", "r0 = r0 == r0": "reads [0 0], writes 0, goes to [1]",
		"r5 = !r6": "reads [6], writes 5, goes to [1]", "r5 = -r6": "reads [6], writes 5, goes to [1]",
		"go 9": "reads [], writes nothing, goes to [9]", "go 0": "reads [], writes nothing, goes to [0]", "go 1": "reads [], writes nothing, goes to [1]", "zero r6 9": "reads [6], writes nothing, goes to [1 9]", "zero r0 0": "reads [0], writes nothing, goes to [1 0]", "zero r6 1": "reads [6], writes nothing, goes to [1 1]",
		"r5 = call f(r6 r7)": "reads [6 7], writes 5, goes to [1]", "r5 = call f()": "reads [], writes 5, goes to [1]", "r5 = call (r9 r7 r9 r5)": "reads [9 7 9 5], writes 5, goes to [1]", "r5 = new(r6 r7 r8)": "reads [6 7 8], writes 5, goes to [1]", "r5 = new()": "reads [], writes 5, goes to [1]",
		"r5 = r6.7": "reads [6], writes 5, goes to [1]", "print r6": "reads [6], writes nothing, goes to [1]", "return r6": "reads [6], writes nothing, goes to []", "r5 = global k": "reads [], writes 5, goes to [1]",
		// what is no register or position is returned as it is
		"r-1 = r-2 + r99": "reads [-2 99], writes -1, goes to [1]", "r5 = new(r-1 r99)": "reads [-1 99], writes 5, goes to [1]", "go -3": "reads [], writes nothing, goes to [-3]", "zero r-1 77": "reads [-1], writes nothing, goes to [1 77]", "return r-9": "reads [-9], writes nothing, goes to []", "print r99": "reads [99], writes nothing, goes to [1]",
	} {
		checkFacts(t, api.Code{Ops: []api.Op{op(text)}}, 0, want)
		checkFacts(t, api.Code{Params: 1, Regs: 10, Ops: []api.Op{op(text), op("return r0")}}, 0, want)
	}
}

// Fields that a kind does not name are not returned.
func TestFactsOfOtherFields(t *testing.T) {
	full := api.Op{A: 5, B: 6, C: 7, List: []int{8, 9}, Sym: "f"}
	for kind, want := range map[int]string{
		api.OpConst: "reads [], writes 5, goes to [1]", api.OpCopy: "reads [6], writes 5, goes to [1]", api.OpAdd: "reads [6 7], writes 5, goes to [1]", api.OpSub: "reads [6 7], writes 5, goes to [1]", api.OpMul: "reads [6 7], writes 5, goes to [1]", api.OpDiv: "reads [6 7], writes 5, goes to [1]", api.OpRem: "reads [6 7], writes 5, goes to [1]", api.OpLess: "reads [6 7], writes 5, goes to [1]", api.OpEqual: "reads [6 7], writes 5, goes to [1]", api.OpNot: "reads [6], writes 5, goes to [1]", api.OpNeg: "reads [6], writes 5, goes to [1]",
		api.OpJump: "reads [], writes nothing, goes to [7]", api.OpZero: "reads [6], writes nothing, goes to [1 7]", api.OpCall: "reads [8 9], writes 5, goes to [1]", api.OpNew: "reads [8 9], writes 5, goes to [1]", api.OpLoad: "reads [6], writes 5, goes to [1]", api.OpPrint: "reads [6], writes nothing, goes to [1]", api.OpReturn: "reads [6], writes nothing, goes to []", api.OpGlobal: "reads [], writes 5, goes to [1]",
	} {
		o := full
		o.Kind = kind
		checkFacts(t, api.Code{Ops: []api.Op{o}}, 0, want)
	}
	for _, kind := range []int{api.OpConst - 1, api.OpGlobal + 1, -1, -12, 21, 32, 100, 256 + 12, math.MinInt, math.MaxInt, 1<<32 + 1} {
		o := full
		o.Kind = kind
		checkFacts(t, api.Code{Ops: []api.Op{o, o}}, 0, "reads [], writes nothing, goes to []")
		checkFacts(t, api.Code{Ops: []api.Op{o, o}}, 1, "reads [], writes nothing, goes to []")
	}
}

// There is nothing for a k that is no operation.
func TestFactsOfNoOperation(t *testing.T) {
	c := of("2/9: r5 = r6 + r7, zero r1 0, r3 = call f(r2 r1), go 1, return r8")
	for _, k := range []int{-1, -2, 5, 6, math.MinInt, math.MaxInt, 1 << 32} {
		checkFacts(t, c, k, "reads [], writes nothing, goes to []")
	}
	for k := -1; k < 3; k++ {
		checkFacts(t, api.Code{Params: 1, Regs: 1}, k, "reads [], writes nothing, goes to []")
	}
	for k, want := range []string{"reads [6 7], writes 5, goes to [1]", "reads [1], writes nothing, goes to [2 0]", "reads [2 1], writes 3, goes to [3]", "reads [], writes nothing, goes to [1]", "reads [8], writes nothing, goes to []"} {
		checkFacts(t, c, k, want)
	}
}

// The last operation goes on behind it, where there is none.
func TestTargetsOfTheLastOperation(t *testing.T) {
	checkFacts(t, of("0/1: r0 = 1, r0 = 2"), 1, "reads [], writes 0, goes to [2]")
	checkFacts(t, of("0/1: r0 = 1, zero r0 0"), 1, "reads [0], writes nothing, goes to [2 0]")
	checkFacts(t, of("0/1: r0 = 1, go 2"), 1, "reads [], writes nothing, goes to [2]")
	checkFacts(t, of("0/1: r0 = 1, go 0"), 1, "reads [], writes nothing, goes to [0]")
	checkFacts(t, of("0/1: r0 = 1, return r0"), 1, "reads [0], writes nothing, goes to []")
}

// Params and Regs do not matter.
func TestFactsDependOnTheOperationAlone(t *testing.T) {
	d := &dice{150}
	for range 3000 {
		c := d.code(d.roll(4), d.roll(5)-1, 1+d.roll(5))
		k := d.roll(len(c.Ops))
		want := facts(c, k)
		checkFacts(t, c, k, readFacts(c, k))
		c.Params, c.Regs = d.roll(9)-4, d.roll(9)-4
		checkFacts(t, c, k, want)
		for i := range c.Ops {
			if i != k {
				c.Ops[i] = d.op(9, 9)
			}
		}
		checkFacts(t, c, k, want)
		c.Ops = append(c.Ops, d.op(9, 9))
		checkFacts(t, c, k, want)
	}
}
