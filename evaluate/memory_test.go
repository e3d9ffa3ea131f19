package evaluate_test

import (
	"fmt"
	"runtime"
	"slices"
	"testing"

	"recompile/api"
	"recompile/evaluate"
)

// roomy returns a list with an element behind it, which an append to the list would write over.
func roomy[T any](l []T, behind T) []T {
	return append(append(make([]T, 0, len(l)+4), l...), behind)[:len(l)]
}

// spoil writes over a list and all that it has room for.
func spoil[T any](l []T, over T) {
	l = l[:cap(l)]
	for i := range l {
		l[i] = over
	}
}

// inMemory returns the run with lists that nothing else has, with room behind each.
func (j job) inMemory() job {
	units := slices.Clone(j.units)
	for i := range units {
		ops := slices.Clone(units[i].Code.Ops)
		for k := range ops {
			ops[k].List = roomy(ops[k].List, 91)
		}
		units[i].Code.Ops = roomy(ops, api.Op{Kind: 92})
	}
	j.units, j.values, j.args = roomy(units, api.Unit{Sym: "behind"}), roomy(j.values, api.Value{Sym: "behind"}), roomy(j.args, 93)
	return j
}

// showAll writes a run with what its lists have room for.
func (j job) showAll() string {
	s := fmt.Sprint(j.values[:cap(j.values)], j.args[:cap(j.args)])
	for _, u := range j.units[:cap(j.units)] {
		s += fmt.Sprint(u.Sym, u.Code.Params, u.Code.Regs, "(")
		for _, o := range u.Code.Ops[:cap(u.Code.Ops)] {
			s += fmt.Sprint(o, o.List[:cap(o.List)])
		}
		s += ")"
	}
	return s
}

func (j job) spoil() {
	for _, u := range j.units {
		for _, o := range u.Code.Ops {
			spoil(o.List, -7)
		}
		spoil(u.Code.Ops, api.Op{Kind: 99})
	}
	spoil(j.units, api.Unit{Sym: "spoilt"})
	spoil(j.values, api.Value{Sym: "spoilt"})
	spoil(j.args, -7)
}

// What is given stays as it was, and results share no memory with it or with others.
func TestResultsShareNothing(t *testing.T) {
	for _, plain := range jobs(161, 3000) {
		j := plain.inMemory()
		before := j.showAll()
		got := j.run()
		spoil(j.run().Prints, -7)
		if j.showAll() != before {
			t.Fatalf("%s: what was given has changed", plain.show())
		}
		j.spoil()
		if showOutcome(got) != showOutcome(plain.read()) {
			t.Fatalf("%s: the outcome is %q after others were changed", plain.show(), showOutcome(got))
		}
	}
}

// Registers are no memory of the arguments or of the code.
func TestArgumentsStay(t *testing.T) {
	j := main("main 3/4: r0 = 9, r1 = 8, r3 = new(r0 r1), r2 = r3.0, r0 = call f(r1 r2), r1 = 6, return r0; f 2/2: r0 = 5, r1 = 4, return r0", "", 1, 2, 3).inMemory()
	before := j.showAll()
	j.check(t, "value 5")
	if j.showAll() != before {
		t.Errorf("what was given has changed")
	}
}

func TestListsOfOperationsShareNothing(t *testing.T) {
	d := &dice{162}
	for range 3000 {
		plain := d.code(d.roll(4), d.roll(5), 1+d.roll(6))
		j := job{units: []api.Unit{{Code: plain}}}.inMemory()
		c := j.units[0].Code
		before := j.showAll()
		for k := range c.Ops {
			reads, targets := evaluate.Reads(c, k), evaluate.Targets(c, k)
			spoil(evaluate.Reads(c, k), -7)
			spoil(evaluate.Targets(c, k), -7)
			if want := facts(plain, k); facts(c, k) != want || !slices.Equal(reads, evaluate.Reads(plain, k)) || !slices.Equal(targets, evaluate.Targets(plain, k)) {
				t.Fatalf("%+v: the results for %d share memory", plain, k)
			}
			spoil(reads, -7)
			spoil(targets, -7)
		}
		evaluate.Sound(c)
		if j.showAll() != before {
			t.Fatalf("%+v: the code has changed", plain)
		}
	}
}

// Frames that were left leave nothing behind, however long they are.
func TestFramesThatWereLeftTakeNoMemory(t *testing.T) {
	j := main("main 1/3: r1 = 1, zero r0 5, r2 = call f(), r0 = r0 - r1, go 1, return r2; f 0/20000: r19999 = 3, return r19999", "", 1000)
	var before, after runtime.MemStats
	runtime.ReadMemStats(&before)
	out := j.run()
	runtime.ReadMemStats(&after)
	if took := after.TotalAlloc - before.TotalAlloc; showOutcome(out) != "value 3" || took > 400<<20 {
		t.Errorf("%q took %d bytes", showOutcome(out), took)
	}
}

// Lists that are parts of others are taken like any others.
func TestListsThatShareMemory(t *testing.T) {
	list := []int{0, 1, 0, 1}
	ops := []api.Op{{Kind: api.OpNew, A: 1, List: list[:2]}, {Kind: api.OpNew, A: 0, List: list[1:]}, {Kind: api.OpLoad, A: 1, C: 1}, {Kind: api.OpReturn, B: 0}}
	for first, want := range []string{"value 2", "value 1"} {
		// the second unit has the operations of the first one but one
		j := job{units: []api.Unit{{Sym: "f", Code: api.Code{Regs: 2, Ops: ops[first:]}}, {Sym: "g", Code: api.Code{Regs: 2, Ops: ops[1:]}}}, sym: "f", steps: 9}
		j.check(t, want)
	}
	args := []int{1, 2, 3}
	job{units("f 2/2: r0 = 7, return r1"), nil, "f", args[:2], 9}.check(t, "value 2")
	job{units("f 2/2: r0 = 7, return r1"), nil, "f", args[1:], 9}.check(t, "value 3")
}

// An empty list is like none.
func TestEmptyLists(t *testing.T) {
	for _, j := range jobs(163, 2000) {
		want := showOutcome(j.run())
		full := j.inMemory()
		for i := range full.units {
			for k := range full.units[i].Code.Ops {
				if o := &full.units[i].Code.Ops[k]; len(o.List) == 0 {
					o.List = []int{}
				}
			}
		}
		if len(full.args) == 0 {
			full.args = []int{}
		}
		if got := showOutcome(full.run()); got != want {
			t.Fatalf("%s\ngives %q with empty lists, expected %q", j.show(), got, want)
		}
	}
	for _, l := range [][]api.Unit{nil, {}} {
		for _, values := range [][]api.Value{nil, {}} {
			job{l, values, "f", []int{}, 5}.check(t, "link")
			job{l, values, "", nil, 0}.check(t, "link")
		}
	}
	checkSound(t, api.Code{}, false)
	checkSound(t, api.Code{Regs: 1, Ops: []api.Op{}}, false)
	checkFacts(t, api.Code{}, 0, "reads [], writes nothing, goes to []")
}
