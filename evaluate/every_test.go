package evaluate_test

import (
	"testing"

	"recompile/api"
)

// compare tests that a run is what the second reading says, and returns its outcome.
func (j job) compare(t *testing.T) api.Outcome {
	t.Helper()
	got := j.run()
	if want := showOutcome(j.read()); showOutcome(got) != want {
		t.Fatalf("%s\ngives %q, expected %q", j.show(), showOutcome(got), want)
	}
	return got
}

// eachOp calls a function with all operations of few registers.
func eachOp(do func(o api.Op)) {
	lists := [][]int{nil, {0}, {1, 0}, {2}, {0, -1}}
	for kind := range api.OpGlobal + 2 {
		for _, sym := range []string{"", "main", "f", "k"} {
			for i := range 64 * len(lists) {
				do(api.Op{Kind: kind, A: i%4 - 1, B: i/4%4 - 1, C: i/16%4 - 1, List: lists[i/64], Sym: sym})
			}
		}
	}
}

// Every small operation after others, with few and with enough steps.
func TestEveryOperation(t *testing.T) {
	t.Parallel()
	for _, before := range []string{"", "r0 = 1, ", "r1 = -7, r0 = 2, ", "r0 = 5, r1 = new(r0 r1), "} {
		j := main("main 0/2: "+before+"go 0, print r0, print r1, return r0; f 1/1: r0 = -r0, return r0; f 0/1: return r0", "k=9 =8")
		at := len(j.units[0].Code.Ops) - 4
		eachOp(func(o api.Op) {
			j.units[0].Code.Ops[at] = o
			for _, steps := range []int{at, at + 1, at + 3, 30} {
				j.steps = steps
				j.compare(t)
			}
			checkFacts(t, j.units[0].Code, at, readFacts(j.units[0].Code, at))
			checkSound(t, j.units[0].Code, readSound(j.units[0].Code))
		})
	}
}

// Every two short operations.
func TestEveryTwoOperations(t *testing.T) {
	t.Parallel()
	parts := []string{"r0 = 1", "r1 = 0", "r2 = 0", "r0 = r1", "r1 = r0 + r0", "r1 = r1 / r0", "r0 = !r0", "go 0", "go 1", "go 2", "go 3", "zero r0 0", "zero r0 2", "zero r1 3", "print r0", "print r1", "return r0", "return r1", "r0 = new()", "r0 = new(r1)", "r1 = r0.0", "r0 = call main()", "r0 = call f(r0)", "r1 = call f(r1 r0)", "r0 = global k", "r0 = global l"}
	for _, a := range parts {
		for _, b := range parts {
			for _, c := range []string{"", ", return r0", ", return r1", ", go 0"} {
				j := main("main 0/2: "+a+", "+b+c+"; f 1/2: r1 = 2, r0 = r0 - r1, return r0", "k=7 l")
				j.steps = 50
				j.compare(t)
				checkSound(t, j.units[0].Code, readSound(j.units[0].Code))
			}
		}
	}
}

func TestGeneratedUnits(t *testing.T) {
	t.Parallel()
	d := &dice{152}
	ends := map[int]int{}
	prints, deep := 0, 0
	for range 60000 {
		j := d.job()
		got := j.compare(t)
		ends[got.Trap]++
		prints += len(got.Prints)
		if _, r := j.readWith(); r.open > 1 {
			deep++
		}
	}
	for _, trap := range []int{api.TrapNone, api.TrapZero, api.TrapSteps, api.TrapConst, api.TrapLink, api.TrapBad} {
		if ends[trap] < 500 {
			t.Errorf("%d of the runs end with %q", ends[trap], trapNames[trap])
		}
	}
	if prints < 20000 || deep < 2000 {
		t.Errorf("only %d prints, only %d runs end in an inner frame", prints, deep)
	}
}
