package evaluate_test

import (
	"strconv"
	"strings"
	"testing"

	"recompile/api"
)

// checkTrap tests a run that ends with a trap before the operation after so many steps: with fewer steps it ends by TrapSteps, with more by this trap.
func (j job) checkTrap(t *testing.T, made int, want string) {
	t.Helper()
	if made > 0 {
		j.steps = made - 1
		j.checkSteps(t)
	}
	j.steps = made
	j.checkSteps(t)
	for _, steps := range []int{made + 1, made + 2, api.MaxSteps} {
		j.steps = steps
		j.check(t, want)
	}
}

// checkSteps tests that a run ends by TrapSteps.
func (j job) checkSteps(t *testing.T) {
	t.Helper()
	got, want := showOutcome(j.run()), showOutcome(j.read())
	if !strings.HasSuffix(got, "steps") || got != want {
		t.Errorf("%s\ngives %q, expected %q", j.show(), got, want)
	}
}

// Each trap alone, and each two that can meet at an operation, TrapSteps with each of the others.
func TestTraps(t *testing.T) {
	for text, want := range map[string]string{
		"r2 = r1 / r0": "zero", "r2 = r1 % r0": "zero", "r2 = r0 / r0": "zero", "r2 = r0 % r0": "zero", "r0 = r0 / r0": "zero",
		"r2 = call none()": "link", "r2 = call none(r1)": "link", "r2 = call one()": "link", "r2 = call one(r1 r1)": "link", "r2 = call ()": "link",
		"r2 = call more(r1 r1)": "bad", "r2 = call many()": "bad", "r2 = call short()": "bad", "r2 = call below(r1)": "link", "r9 = 1": "bad", "r2 = r1.0": "bad", "go 9": "bad",
		"r2 = global none": "const", "r2 = global": "const", "r2 = global two": "const", "r2 = new(" + list(api.MaxCells) + ")": "cells",
		// bad before division by zero
		"r3 = r1 / r0": "bad", "r2 = r3 / r0": "bad", "r2 = r1 / r3": "bad", "r-1 = r1 % r0": "bad", "r2 = r-1 % r0": "bad", "r2 = r1 % r-1": "bad", "r3 = r3 / r0": "bad",
		// before what is not linked
		"r3 = call none()": "bad", "r2 = call none(r3)": "bad", "r2 = call none(r1 r-1)": "bad", "r-1 = call one()": "bad", "r2 = call one(r1 r3)": "bad", "r2 = call one(r3 r1)": "bad", "r3 = call ()": "bad",
		// before too many cells
		"r3 = new(" + list(api.MaxCells) + ")": "bad", "r2 = new(r3 " + list(api.MaxCells) + ")": "bad", "r2 = new(" + list(api.MaxCells) + " r3)": "bad",
		// before what has no value
		"r3 = global none": "bad", "r-1 = global": "bad", "r3 = global two": "bad",
		// not linked before Params and Regs
		"r2 = call more()": "link", "r2 = call many(r1)": "link", "r2 = call short(r1)": "link", "r2 = call below()": "link",
	} {
		others := "; one 1/1: return r0; more 2/1: return r0; many 0/20001: return r0; short 0/-1: return r0; below -1/-2: return r0"
		main("main 0/3: "+text+", return r2"+others, "two two=5").checkTrap(t, 0, want)
		main("main 0/3: r1 = 3, print r1, "+text+", return r2"+others, "two two=5").checkTrap(t, 2, "3 "+want)
		main("main 0/1: print r0, r0 = call f(), return r0; f 0/3: print r0, r1 = 3, "+text+", return r2"+others, "two two=5").checkTrap(t, 4, "0 0 "+want)
	}
}

// So many steps are made before the operation of a deep call.
func stepsOfDeep(n int) int { return 4*n + 2 }

// Traps that meet TrapFrames.
func TestTrapsInTheLastFrame(t *testing.T) {
	for text, want := range map[string]string{
		"r3 = call f()": "frames", "r3 = call g(r1)": "frames", "r3 = call main(r1)": "frames",
		"r3 = call none()": "link", "r3 = call g()": "link", "r3 = call f(r1)": "link", "r3 = call ()": "link",
		"r3 = call more(r1)": "bad", "r3 = call many()": "bad", "r3 = call short()": "bad", "r3 = call more()": "link", "r3 = call many(r1)": "link",
		"r4 = call f()": "bad", "r-1 = call f()": "bad", "r3 = call g(r4)": "bad", "r3 = call f(r4)": "bad", "r4 = call none()": "bad", "r4 = call more(r1)": "bad",
		"r3 = r1 / r0": "zero", "r3 = global none": "const", "r3 = r1.0": "bad", "r3 = new(" + list(api.MaxCells) + ")": "cells",
	} {
		main(deep(text), "", api.MaxFrames-1).checkTrap(t, stepsOfDeep(api.MaxFrames-1), want)
	}
}

// Traps that meet TrapCells when one more record without numbers is too many.
func TestTrapsWithAllCells(t *testing.T) {
	fill := "main 0/2: r0 = new(" + list(api.MaxCells-1) + "), print r0, "
	for text, want := range map[string]string{
		"r1 = new()": "cells", "r1 = new(r0)": "cells", "r2 = new()": "bad", "r-1 = new()": "bad", "r1 = new(r2)": "bad", "r1 = r1 / r1": "zero", "r1 = global k": "const", "r1 = call f()": "link", "r1 = r1.0": "bad",
	} {
		main(fill+text+", return r1", "").checkTrap(t, 2, "1 "+want)
	}
	checkMain(t, fill+"r1 = r0.19998, return r1", "1 value 0")
	checkMain(t, fill+"r1 = r0.19999, return r1", "1 bad")
}

func TestTrapsAtTheEnd(t *testing.T) {
	main("main 0/1: r0 = 1, print r0", "").checkTrap(t, 2, "1 bad")
	main("main 0/1:", "").checkTrap(t, 0, "bad")
	main("main 0/1: r0 = call f(), return r0; f 0/1: print r0", "").checkTrap(t, 2, "0 bad")
	main("main 0/1: r0 = call f(), return r0; f 0/0:", "").checkTrap(t, 1, "bad")
}

// Before the first step there are the traps of a call, also if no step may be made.
func TestTrapsBeforeTheFirstStep(t *testing.T) {
	for text, want := range map[string]string{
		"": "link", "g 1/1: return r0": "link", "f 0/1: return r0": "link", "f 2/2: return r0": "link", "f 0/20001: return r0": "link", "f 2/1: return r0": "link", "f -1/1: return r0": "link", "f 1/0: return r0": "bad", "f 1/-1: return r0": "bad", "f 1/20001: return r0": "bad",
	} {
		for _, steps := range []int{-1, 0, 1, api.MaxSteps} {
			job{units(text), nil, "f", []int{4}, steps}.check(t, want)
		}
	}
	for _, text := range []string{"f 1/1:", "f 1/1: r9 = r0 / r8", "f 1/1: return r0", "f 1/1: r0 = call g(), return r0"} {
		for _, steps := range []int{-1, 0} {
			job{units(text), nil, "f", []int{4}, steps}.check(t, "steps")
		}
	}
}

// What was printed before a trap is in the outcome, in order, and the value is 0.
func TestPrintsBeforeTraps(t *testing.T) {
	for text, want := range map[string]string{
		"r2 = r2 / r2": "zero", "go 2": "steps", "r2 = new(" + list(api.MaxCells) + ")": "cells", "r2 = global k": "const", "r2 = call none()": "link", "r9 = 1": "bad", "r2 = r1.0": "bad",
	} {
		checkMain(t, "main 0/3: r1 = call f(), print r1, "+text+", return r1; f 0/1: r0 = 6, print r0, r0 = 7, print r0, r0 = 8, return r0", "6 7 8 "+want)
	}
	checkMain(t, "main 0/3: r1 = call f(), print r1, r1 = call main(), return r1; f 0/1: r0 = 6, print r0, r0 = 7, return r0", strings.Repeat("6 7 ", api.MaxFrames-1)+"frames")
	// a value of an inner frame is not that of the run
	checkMain(t, "main 0/1: r0 = call f(), print r0, r0 = global none, return r0; f 0/1: r0 = 9, return r0", "9 const")
	checkMain(t, "main 0/1: r0 = call f(), return r0; f 0/1: r0 = call g(), r0 = r0 / r1, return r0; g 0/1: r0 = 9, return r0", "bad")
	// there can be many
	var want []string
	for n := 40000; n > 0; n-- {
		want = append(want, strconv.Itoa(n))
	}
	main("main 1/2: r1 = 1, zero r0 5, print r0, r0 = r0 - r1, go 1, r0 = r1 / r0, return r0", "", 40000).check(t, strings.Join(want, " ")+" zero")
}
