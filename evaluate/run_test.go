package evaluate_test

import (
	"math"
	"strconv"
	"strings"
	"testing"

	"recompile/api"
)

func TestExample(t *testing.T) {
	ops := []api.Op{{Kind: api.OpConst, C: 7}, {Kind: api.OpPrint}, {Kind: api.OpReturn}}
	job{units: []api.Unit{{Sym: "f", Code: api.Code{Regs: 1, Ops: ops}}}, sym: "f", steps: 3}.check(t, "7 value 7")
}

// Each operation gives its result, and leaves other registers as they are.
func TestOperations(t *testing.T) {
	for text, want := range map[string]string{
		"r2 = 7": "17 5 7", "r2 = -7": "17 5 -7", "r0 = 0": "0 5 3", "r1 = 9223372036854775807": "17 9223372036854775807 3", "r1 = -9223372036854775808": "17 -9223372036854775808 3",
		"r2 = r0": "17 5 17", "r0 = r1": "5 5 3", "r1 = r1": "17 5 3",
		"r2 = r0 + r1": "17 5 22", "r2 = r0 - r1": "17 5 12", "r2 = r1 - r0": "17 5 -12", "r2 = r0 * r1": "17 5 85", "r2 = r0 / r1": "17 5 3", "r2 = r1 / r0": "17 5 0", "r2 = r0 % r1": "17 5 2", "r2 = r1 % r0": "17 5 5",
		"r2 = r0 < r1": "17 5 0", "r2 = r1 < r0": "17 5 1", "r2 = r1 < r1": "17 5 0", "r2 = r0 == r1": "17 5 0", "r2 = r1 == r1": "17 5 1",
		"r2 = !r0": "17 5 -16", "r2 = !r2": "17 5 -2", "r2 = -r0": "17 5 -17",
		// the register that is written can be one that is read
		"r0 = r0 + r1": "22 5 3", "r0 = r1 - r0": "-12 5 3", "r1 = r1 * r1": "17 25 3", "r0 = -r0": "-17 5 3", "r1 = !r1": "17 -4 3", "r1 = r0 / r1": "17 3 3",
		"r2 = global k": "17 5 40", "r0 = global l": "-6 5 3",
		"r2 = call sum(r0 r1)": "17 5 22", "r2 = call sum(r1 r1)": "17 5 10", "r0 = call less(r1 r0)": "-12 5 3", "r1 = call nine()": "17 9 3",
		"r2 = new()": "17 5 1", "r2 = new(r0 r1)": "17 5 1", "r0 = new(r0)": "1 5 3",
		"go 4": "17 5 3", "zero r0 0": "17 5 3", "zero r2 0": "17 5 3",
	} {
		main("main 0/3: r0 = 17, r1 = 5, r2 = 3, "+text+", print r0, print r1, print r2, return r2; sum 2/2: r0 = r0 + r1, return r0; less 2/3: r2 = r0 - r1, return r2; nine 0/1: r0 = 9, return r0", "k=40 l=-6").check(t, want+" value "+want[strings.LastIndex(want, " ")+1:])
	}
}

func TestJumps(t *testing.T) {
	for text, want := range map[string]string{
		"go 1, return r0": "value 0", "go 2, r0 = 1, return r0": "value 0", "r0 = 1, go 3, r0 = 2, return r0": "value 1", "go 3, r0 = 5, return r0, r0 = 4, go 1": "value 5", "go 3, r0 = 5, return r0, go 2": "value 0",
		"zero r0 2, r0 = 1, return r0": "value 0", "r0 = 2, zero r0 3, r0 = 1, return r0": "value 1", "r0 = -1, zero r0 3, r0 = 1, return r0": "value 1", "r0 = -9223372036854775808, zero r0 3, r0 = 1, return r0": "value 1", "zero r0 1, return r0": "value 0", "r0 = 1, zero r0 2, return r0": "value 1",
		"r0 = 3, zero r0 6, print r0, r1 = 1, r0 = r0 - r1, go 1, r0 = 9, return r0": "3 2 1 value 9",
		// what is not reached does not matter
		"return r0, r7 = r8 + r9": "value 0", "r0 = 1, return r0, go 99": "value 1",
	} {
		checkMain(t, "main 0/2: "+text, want)
	}
}

func TestPrints(t *testing.T) {
	checkMain(t, "main 0/2: print r0, r0 = 5, print r0, print r0, r1 = -3, print r1, print r0, return r1", "0 5 5 -3 5 value -3")
	checkMain(t, "main 0/2: print r0, r1 = call f(), print r1, r1 = call f(), return r1; f 0/1: r0 = 1, print r0, r0 = call g(), print r0, return r0; g 0/1: r0 = 2, print r0, r0 = 3, return r0", "0 1 2 3 3 1 2 3 value 3")
	checkMain(t, "main 0/2: r0 = 9223372036854775807, print r0, r1 = -9223372036854775808, print r1, return r0", "9223372036854775807 -9223372036854775808 value 9223372036854775807")
}

// The quotient is rounded towards 0, and the remainder has the sign of B.
func TestDivision(t *testing.T) {
	for _, c := range []struct{ b, c, quotient, remainder int }{
		{7, 2, 3, 1}, {-7, 2, -3, -1}, {7, -2, -3, 1}, {-7, -2, 3, -1}, {6, 3, 2, 0}, {-6, 3, -2, 0}, {6, -3, -2, 0}, {-6, -3, 2, 0}, {1, 2, 0, 1}, {-1, 2, 0, -1}, {1, -2, 0, 1}, {-1, -2, 0, -1}, {0, 5, 0, 0}, {0, -5, 0, 0},
		{5, 1, 5, 0}, {5, -1, -5, 0}, {-5, 1, -5, 0}, {-5, -1, 5, 0}, {math.MaxInt, math.MinInt, 0, math.MaxInt}, {math.MinInt, math.MaxInt, -1, -1}, {math.MinInt, math.MinInt, 1, 0}, {math.MinInt, 2, math.MinInt / 2, 0}, {math.MinInt, 1, math.MinInt, 0}, {math.MaxInt, -1, -math.MaxInt, 0},
		{math.MinInt, -1, math.MinInt, 0}, {math.MinInt + 1, -1, math.MaxInt, 0},
	} {
		main("main 2/4: r2 = r0 / r1, r3 = r0 % r1, print r2, print r3, return r2", "", c.b, c.c).check(t, strconv.Itoa(c.quotient)+" "+strconv.Itoa(c.remainder)+" value "+strconv.Itoa(c.quotient))
	}
}

func TestNumbersWrap(t *testing.T) {
	for _, c := range []struct {
		text    string
		b, c, a int
	}{
		{"r0 + r1", math.MaxInt, 1, math.MinInt}, {"r0 + r1", math.MaxInt, math.MaxInt, -2}, {"r0 + r1", math.MinInt, -1, math.MaxInt}, {"r0 + r1", math.MinInt, math.MinInt, 0}, {"r0 + r1", math.MaxInt, math.MinInt, -1},
		{"r0 - r1", math.MinInt, 1, math.MaxInt}, {"r0 - r1", math.MaxInt, -1, math.MinInt}, {"r0 - r1", 0, math.MinInt, math.MinInt}, {"r0 - r1", -2, math.MaxInt, math.MaxInt},
		{"r0 * r1", math.MaxInt, 2, -2}, {"r0 * r1", math.MinInt, -1, math.MinInt}, {"r0 * r1", math.MinInt, 2, 0}, {"r0 * r1", 1 << 32, 1 << 32, 0}, {"r0 * r1", 1 << 32, 1 << 31, math.MinInt}, {"r0 * r1", math.MaxInt, math.MaxInt, 1}, {"r0 * r1", 3037000500, 3037000500, -9223372036709301616},
		{"-r0", math.MinInt, 0, math.MinInt}, {"-r0", math.MaxInt, 0, -math.MaxInt}, {"!r0", math.MinInt, 0, math.MinInt + 1}, {"!r0", math.MinInt + 1, 0, math.MinInt}, {"!r0", math.MaxInt, 0, math.MinInt + 2}, {"!r0", 0, 0, 1}, {"!r0", 1, 0, 0},
		// but not where they are compared
		{"r0 < r1", math.MinInt, math.MaxInt, 1}, {"r0 < r1", math.MaxInt, math.MinInt, 0}, {"r0 < r1", -1, 0, 1}, {"r0 < r1", 0, -1, 0}, {"r0 < r1", math.MinInt, math.MinInt + 1, 1}, {"r0 == r1", math.MinInt, math.MaxInt, 0}, {"r0 == r1", math.MinInt, math.MinInt, 1}, {"r0 == r1", 1 << 32, 0, 0}, {"r0 == r1", -1, 1, 0},
	} {
		main("main 2/3: r2 = "+c.text+", return r2", "", c.b, c.c).check(t, "value "+strconv.Itoa(c.a))
	}
}

// Registers are 0 at first, but for the parameters, also if others were there before.
func TestRegistersAtFirst(t *testing.T) {
	main("main 0/3: print r0, print r1, print r2, return r2", "").check(t, "0 0 0 value 0")
	main("main 2/4: print r0, print r1, print r2, print r3, return r3", "", 7, -8).check(t, "7 -8 0 0 value 0")
	main("main 3/3: print r2, print r1, print r0, return r1", "", 1, 2, 3).check(t, "3 2 1 value 2")
	checkMain(t, "main 0/2: r0 = 9, r1 = call f(r0), r1 = call f(r1), r1 = call f(r0), return r0; f 1/3: print r0, print r1, print r2, r1 = 5, r2 = 6, r0 = 4, return r0", "9 0 0 4 0 0 9 0 0 value 9")
}

// Frames share no registers: what a function writes is its own.
func TestFramesShareNothing(t *testing.T) {
	checkMain(t, "main 0/3: r0 = 1, r1 = 2, r2 = call f(r0 r1), print r0, print r1, print r2, return r2; f 2/3: r0 = 7, r1 = 8, r2 = 9, return r0", "1 2 7 value 7")
	checkMain(t, "main 0/3: r0 = 1, r2 = call f(r0 r0), print r0, return r2; f 2/2: r0 = 5, print r1, return r1", "1 1 value 1")
	// nor do those of one function
	checkMain(t, "main 0/2: r0 = 4, r1 = call fac(r0), print r0, return r1; fac 1/4: zero r0 6, r1 = 1, r2 = r0 - r1, r3 = call fac(r2), r0 = r0 * r3, return r0, r1 = 1, return r1", "4 value 24")
	// and a call goes on where it was
	checkMain(t, "main 0/2: r0 = call f(), print r0, r1 = call f(), print r1, r0 = r0 + r1, return r0; f 0/1: r0 = 3, print r0, return r0", "3 3 3 3 value 6")
	// what it returns can be an argument
	checkMain(t, "main 0/2: r0 = 2, r0 = call f(r0 r1), r0 = call f(r0 r0), return r0; f 2/2: r0 = r0 * r0, r0 = r0 + r1, return r0", "value 20")
}

// A kind that is none is bad, whatever else the operation has.
func TestKindsThatAreNone(t *testing.T) {
	for _, kind := range []int{api.OpConst - 1, api.OpGlobal + 1, -1, -2, 20, 21, 64, 255, 256, 257, 1000, math.MinInt, math.MaxInt, math.MinInt + 1, 1 << 32, 1<<32 + 1} {
		for _, o := range []api.Op{{}, {A: 1, B: 1, C: 1}, {C: 2}, {List: []int{0}, Sym: "main"}} {
			o.Kind = kind
			j := main("main 0/2: r0 = 5, print r0, go 3, return r0", "")
			j.units[0].Code.Ops[2] = o
			j.check(t, "5 bad")
		}
	}
	j := main("main 0/20: return r0", "")
	for kind := api.OpConst; kind <= api.OpGlobal; kind++ {
		j.units[0].Code.Ops = []api.Op{{Kind: kind, Sym: "main"}, op("return r0")}
		if want := map[int]string{api.OpDiv: "zero", api.OpRem: "zero", api.OpJump: "steps", api.OpZero: "steps", api.OpCall: "frames", api.OpLoad: "bad", api.OpGlobal: "const", api.OpNot: "value 1", api.OpEqual: "value 1", api.OpNew: "value 1", api.OpPrint: "0 value 0"}[kind]; want != "" {
			j.check(t, want)
		} else {
			j.check(t, "value 0")
		}
	}
}
