package evaluate_test

import (
	"math"
	"testing"

	"recompile/api"
)

// A run that needs n steps ends with n of them, and not with fewer.
func TestSteps(t *testing.T) {
	for text, c := range map[string]struct {
		steps int
		want  string
	}{
		"main 0/1: return r0":                                  {1, "value 0"},
		"main 0/1: r0 = 3, return r0":                          {2, "value 3"},
		"main 0/1: go 2, r0 = 3, return r0":                    {2, "value 0"},
		"main 0/1: zero r0 2, r0 = 3, return r0":               {2, "value 0"},
		"main 0/1: r0 = 3, zero r0 0, return r0":               {3, "value 3"},
		"main 0/1: r0 = call f(), return r0; f 0/1: return r0": {3, "value 0"},
		"main 0/1: r0 = call f(), r0 = call f(), return r0; f 0/1: r0 = call g(), return r0; g 0/1: r0 = 2, return r0": {11, "value 2"},
		"main 0/1: r0 = new(r0 r0), r0 = r0.0, print r0, return r0":                                                    {4, "0 value 0"},
		"main 0/2: r0 = 2, r1 = 1, zero r0 5, r0 = r0 - r1, go 2, return r1":                                           {10, "value 1"},
	} {
		j := main(text, "")
		for _, steps := range []int{c.steps, c.steps + 1, c.steps + 2, api.MaxSteps - 1, api.MaxSteps, api.MaxSteps + 1, math.MaxInt} {
			j.steps = steps
			j.check(t, c.want)
		}
		for steps := range c.steps {
			j.steps = steps
			j.checkSteps(t)
		}
		for _, steps := range []int{-1, -2, -c.steps, math.MinInt} {
			j.steps = steps
			j.check(t, "steps")
		}
	}
}

// What is printed by the last step that is made is in the outcome.
func TestPrintsOfTheStepsThatAreMade(t *testing.T) {
	j := main("main 0/1: print r0, r0 = 1, print r0, r0 = 2, print r0, r0 = 3, return r0", "")
	for steps, want := range []string{"steps", "0 steps", "0 steps", "0 1 steps", "0 1 steps", "0 1 2 steps", "0 1 2 steps", "0 1 2 value 3"} {
		j.steps = steps
		j.check(t, want)
	}
}

// There are at most MaxSteps steps, with whatever number of them.
func TestMaxSteps(t *testing.T) {
	// 3 steps for each one down to 0, and as many more as main has
	const down = "main 1/3: r1 = 1, r2 = 7, zero r0 6, r0 = r0 - r1, go 2, print r2, return r2"
	n := (api.MaxSteps - 4) / 3
	if 3*n+4 != api.MaxSteps-1 {
		t.Fatalf("%d are not all steps but one", 3*n+4)
	}
	for _, steps := range []int{api.MaxSteps, api.MaxSteps + 1, 2 * api.MaxSteps, math.MaxInt} {
		j := main(down, "", n)
		j.steps = steps
		j.check(t, "value 7")
		j.units[0].Code.Ops[2].C = 5
		j.check(t, "7 value 7")
		j.units[0].Code.Ops[2].C = 6
		j.args[0] = n + 1
		j.check(t, "steps")
	}
	j := main(down, "", n)
	j.units[0].Code.Ops[2].C = 5
	j.steps = api.MaxSteps - 1
	j.check(t, "7 steps")
	j.args[0], j.steps = n-1, api.MaxSteps-4
	j.check(t, "7 steps")
	// with one more operation MaxSteps are one too few
	longer := main("main 1/3: r1 = 1, r2 = 7, zero r0 6, r0 = r0 - r1, go 2, return r0, print r2, r2 = 8, return r2", "", n)
	for _, steps := range []int{api.MaxSteps, api.MaxSteps + 1, math.MaxInt} {
		longer.steps = steps
		longer.check(t, "7 steps")
	}
	checkMain(t, "main 0/0: go 0", "steps")
	checkMain(t, "main 0/1: r0 = call f(), go 0; f 0/1: return r0", "steps")
}
