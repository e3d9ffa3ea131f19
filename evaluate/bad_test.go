package evaluate_test

import (
	"math"
	"slices"
	"strings"
	"testing"

	"recompile/api"
)

// Each register is 1, which is a record with one number.
const ones = "main 0/4: r0 = 1, r1 = 1, r2 = 1, r3 = new(r0), "

const behindOnes = ", print r0, print r1, print r2, print r3, return r2; f 2/2: r0 = r0 + r1, return r0; g 3/3: return r2"

// fine are operations of each kind that are not bad after ones, with what the run gives.
var fine = map[string]string{
	"r2 = 6": "1 1 6 1 value 6", "r2 = r1": "1 1 1 1 value 1", "r2 = r0 + r1": "1 1 2 1 value 2", "r2 = r0 - r1": "1 1 0 1 value 0", "r2 = r0 * r1": "1 1 1 1 value 1", "r2 = r0 / r1": "1 1 1 1 value 1", "r2 = r0 % r1": "1 1 0 1 value 0", "r2 = r0 < r1": "1 1 0 1 value 0", "r2 = r0 == r1": "1 1 1 1 value 1", "r2 = !r0": "1 1 0 1 value 0", "r2 = -r0": "1 1 -1 1 value -1",
	"go 5": "1 1 1 1 value 1", "zero r0 5": "1 1 1 1 value 1", "r2 = call f(r0 r1)": "1 1 2 1 value 2", "r2 = call g(r0 r1 r2)": "1 1 1 1 value 1", "r2 = new(r0 r1)": "1 1 2 1 value 2", "r2 = new(r0 r1 r3)": "1 1 2 1 value 2", "r2 = r0.0": "1 1 1 1 value 1", "print r0": "1 1 1 1 1 value 1", "return r0": "value 1", "r2 = global k": "1 1 8 1 value 8",
}

// wild are numbers that are no registers, positions or fields of what these tests run.
var wild = []int{-1, -2, 100, math.MinInt, math.MaxInt, 1 << 32, 1<<32 + 1}

// after returns the run of an operation after ones.
func after(o api.Op) job {
	j := main(ones+"go 5"+behindOnes, "k=8")
	j.units[0].Code.Ops[4] = o
	return j
}

func TestOperationsThatAreFine(t *testing.T) {
	kinds := map[int]bool{}
	for text, want := range fine {
		o := op(text)
		kinds[o.Kind] = true
		after(o).check(t, want)
	}
	if len(kinds) != api.OpGlobal {
		t.Errorf("only %d kinds", len(kinds))
	}
}

// set returns an operation with another number in one of its fields.
func set(o api.Op, field rune, i, n int) api.Op {
	o.List = slices.Clone(o.List)
	switch field {
	case 'A':
		o.A = n
	case 'B':
		o.B = n
	case 'C', 'P':
		o.C = n
	case 'L':
		o.List[i] = n
	}
	return o
}

// eachRegister calls a function for each place of a register in an operation.
func eachRegister(o api.Op, do func(field rune, i int)) {
	for _, field := range strings.ReplaceAll(named[o.Kind], "P", "") {
		if field != 'L' {
			do(field, 0)
			continue
		}
		for i := range o.List {
			do(field, i)
		}
	}
}

// A register that an operation names is one of the frame, wherever it stands.
func TestRegistersThatAreNone(t *testing.T) {
	tried := 0
	for text := range fine {
		o := op(text)
		eachRegister(o, func(field rune, i int) {
			for _, n := range append([]int{4, 5}, wild...) {
				after(set(o, field, i, n)).check(t, "bad")
				tried++
			}
			for n := range 4 {
				j := after(set(o, field, i, n))
				if got := j.run(); got.Trap != api.TrapNone {
					t.Errorf("%s\ngives %q", j.show(), showOutcome(got))
				}
			}
		})
	}
	if tried < 300 {
		t.Errorf("only %d registers", tried)
	}
}

// How many registers there are is said by the code alone.
func TestRegistersOfSmallAndLargeFrames(t *testing.T) {
	for text, want := range map[string]string{
		"main 0/0: r0 = 1, return r0": "bad", "main 0/0: return r0": "bad", "main 0/0: go 0": "steps", "main 0/1: r0 = 1, return r0": "value 1", "main 0/1: r1 = 1, return r0": "bad", "main 0/1: return r1": "bad", "main 0/20000: r19999 = 7, return r19999": "value 7", "main 0/20000: r20000 = 7, return r0": "bad", "main 0/20000: return r19999": "value 0", "main 0/20000: return r20000": "bad",
		"main 0/3: r0 = 1, r2 = call f(r0), return r2; f 1/1: return r2": "bad", "main 0/1: r0 = call f(), return r0; f 0/3: r2 = 5, return r2": "value 5", "main 0/2: r1 = call f(r0), r2 = 1, return r1; f 1/3: r2 = 5, return r2": "bad",
	} {
		checkMain(t, text, want)
	}
}

// What a kind does not name does not matter.
func TestFieldsThatAreNotNamed(t *testing.T) {
	for text, want := range fine {
		plain := op(text)
		fields := named[plain.Kind]
		var others []api.Op
		for _, n := range append([]int{0, 1, 4}, wild...) {
			if !strings.Contains(fields, "A") {
				others = append(others, set(plain, 'A', 0, n))
			}
			if !strings.Contains(fields, "B") {
				others = append(others, set(plain, 'B', 0, n))
			}
			if !strings.ContainsAny(fields, "CP") && plain.Kind != api.OpConst && plain.Kind != api.OpLoad {
				others = append(others, set(plain, 'C', 0, n))
			}
			if !strings.Contains(fields, "L") {
				o := plain
				o.List = []int{n, 0, n}
				others = append(others, o)
			}
		}
		for _, sym := range []string{"", "f", "none", "k"} {
			if o := plain; plain.Kind != api.OpCall && plain.Kind != api.OpGlobal {
				o.Sym = sym
				others = append(others, o)
			}
		}
		for _, o := range others {
			after(o).check(t, want)
		}
	}
}

// A jump leads to an operation, also if it is not taken.
func TestPositionsThatAreNone(t *testing.T) {
	for _, n := range append([]int{4, 5}, wild...) {
		for _, text := range []string{"go 0", "zero r0 0", "zero r1 0"} {
			j := main("main 0/2: r1 = 1, print r1, go 0, return r1", "")
			j.units[0].Code.Ops[2] = set(op(text), 'P', 0, n)
			j.check(t, "1 bad")
		}
	}
	for text, want := range map[string]string{
		"go 3": "1 value 1", "zero r0 3": "1 value 1", "zero r1 3": "1 value 1", "zero r1 0": "1 value 1", "zero r1 2": "1 value 1",
	} {
		checkMain(t, "main 0/2: r1 = 1, print r1, "+text+", return r1", want)
	}
	// at the last operation
	for text, want := range map[string]string{
		"main 0/1: go 0": "steps", "main 0/1: go 1": "bad", "main 0/1: zero r0 0": "steps", "main 0/1: zero r0 1": "bad", "main 0/1: r0 = 1, zero r0 0": "bad", "main 0/1: r0 = 1, zero r0 1": "bad", "main 0/1: go 1, return r0": "value 0", "main 0/1: go 2, return r0": "bad", "main 0/1: go 1, go 2": "bad", "main 0/1: go 1, go -1": "bad", "main 0/1: go 2, return r0, go 1": "value 0", "main 0/1: go 2, return r0, go 3": "bad", "main 0/1: go 2, return r0, zero r0 1": "value 0",
	} {
		checkMain(t, text, want)
	}
}

func TestWaysPastTheLastOperation(t *testing.T) {
	for text, want := range map[string]string{
		"main 0/1:": "bad", "main 0/0:": "bad", "main 0/1: r0 = 1": "bad", "main 0/1: r0 = 1, print r0": "1 bad", "main 0/1: r0 = 1, zero r0 0": "bad", "main 0/1: go 2, return r0, print r0": "0 bad", "main 0/1: r0 = call f(), return r0; f 0/1: r0 = 1": "bad", "main 0/1: r0 = call f(), return r0; f 0/1:": "bad", "main 0/1: r0 = call f(); f 0/1: return r0": "bad", "main 0/1: r0 = new()": "bad", "main 0/1: return r0": "value 0",
	} {
		checkMain(t, text, want)
	}
	main("main 2/2:", "", 1, 2).check(t, "bad")
}
