package evaluate_test

import (
	"slices"
	"strings"
	"sync"
	"testing"

	"recompile/api"
	"recompile/evaluate"
)

// jobs are generated runs.
func jobs(state uint64, n int) []job {
	d := &dice{state}
	var out []job
	for range n {
		out = append(out, d.job())
	}
	return out
}

// checkMoreSteps tests that a run, once it ends otherwise than by TrapSteps, ends so with all greater numbers of steps, and that before this it prints the beginning of what it prints then. It returns the number of steps that it needs.
func checkMoreSteps(t *testing.T, j job, numbers []int) int {
	t.Helper()
	last, needs := api.Outcome{Trap: api.TrapSteps}, -1
	for _, j.steps = range numbers {
		got := j.run()
		if last.Trap != api.TrapSteps && showOutcome(got) != showOutcome(last) {
			t.Fatalf("%s\ngives %q, with fewer steps %q", j.show(), showOutcome(got), showOutcome(last))
		}
		if len(got.Prints) < len(last.Prints) || !slices.Equal(got.Prints[:len(last.Prints)], last.Prints) {
			t.Fatalf("%s\nprints %d, with fewer steps %d", j.show(), got.Prints, last.Prints)
		}
		if got.Trap != api.TrapSteps && needs < 0 {
			needs = j.steps
		}
		last = got
	}
	return needs
}

func TestMoreSteps(t *testing.T) {
	t.Parallel()
	ends := 0
	for _, j := range jobs(153, 4000) {
		var numbers []int
		for n := range 40 {
			numbers = append(numbers, n-1)
		}
		numbers = append(numbers, 100, 101, 1000, 5000)
		if checkMoreSteps(t, j, numbers) > 5 {
			ends++
		}
	}
	if ends < 600 {
		t.Errorf("only %d runs end after some steps", ends)
	}
}

// Each step is one operation that is begun.
func TestStepsAreOperations(t *testing.T) {
	for _, j := range jobs(154, 3000) {
		j.steps = 300
		out, r := j.readWith()
		if out.Trap == api.TrapSteps {
			continue
		}
		j.steps = r.made - 1
		if got := j.run(); r.made > 0 && got.Trap != api.TrapSteps {
			t.Fatalf("%s\ngives %q after fewer than %d operations", j.show(), showOutcome(got), r.made)
		}
		j.steps = r.made
		if out.Trap != api.TrapNone {
			j.steps++
		}
		if got := j.run(); showOutcome(got) != showOutcome(out) {
			t.Fatalf("%s\ngives %q after %d operations", j.show(), showOutcome(got), r.made)
		}
	}
}

// sound returns generated runs of sound units.
func sound(state uint64, n int) []job {
	d := &dice{state}
	var out []job
	for len(out) < n {
		j := d.job()
		for i := range j.units {
			for !readSound(j.units[i].Code) {
				j.units[i].Code = d.calm(d.code(j.units[i].Code.Params, 1+d.roll(4), 1+d.roll(8)))
			}
		}
		out = append(out, j)
	}
	return out
}

// Sound code is never bad, but for its loads.
func TestSoundCodeIsNotBad(t *testing.T) {
	t.Parallel()
	loads, others := 0, 0
	for _, j := range sound(155, 20000) {
		for _, u := range j.units {
			checkSound(t, u.Code, true)
		}
		out, r := j.readWith()
		if got := j.compare(t); got.Trap == api.TrapBad && r.last.Kind != api.OpLoad {
			t.Fatalf("%s\nis bad at %+v", j.show(), r.last)
		}
		if out.Trap == api.TrapBad {
			loads++
		} else if r.made > 5 {
			others++
		}
		for i := range j.units {
			ops := j.units[i].Code.Ops
			for k := range ops {
				if ops[k].Kind == api.OpLoad {
					ops[k].Kind = api.OpCopy
				}
			}
		}
		if got := j.run(); got.Trap == api.TrapBad {
			t.Fatalf("%s\nis bad without loads", j.show())
		}
	}
	if loads < 1500 || others < 1500 {
		t.Errorf("only %d bad loads, only %d others", loads, others)
	}
}

// Code that is not sound because of its only operation but the last one is bad when it comes there.
func TestCodeThatIsNotSoundIsBad(t *testing.T) {
	d := &dice{156}
	found := 0
	for range 20000 {
		o := d.op(2, 2)
		j := job{units: []api.Unit{{Sym: "f", Code: api.Code{Regs: 2, Ops: []api.Op{o, op("return r0")}}}}, sym: "f", steps: 9}
		if evaluate.Sound(j.units[0].Code) {
			continue
		}
		found++
		if got := j.run(); got.Trap != api.TrapBad {
			t.Fatalf("%s\ngives %q", j.show(), showOutcome(got))
		}
	}
	if found < 1000 {
		t.Errorf("only %d are not sound", found)
	}
}

// Units and values with other symbols, and those behind the first one with a symbol, do not matter, nor does their order.
func TestOtherUnits(t *testing.T) {
	d := &dice{157}
	for _, j := range jobs(158, 4000) {
		want := showOutcome(j.run())
		other := j
		other.units, other.values = nil, nil
		seen := map[string]bool{}
		for _, u := range j.units {
			if !seen[u.Sym] {
				at := d.roll(len(other.units) + 1)
				other.units = slices.Insert(other.units, at, u, api.Unit{Sym: "other", Code: of("0/1: print r0")})
			}
			seen[u.Sym] = true
		}
		has := map[string]bool{}
		for _, v := range j.values {
			if !has[v.Sym] {
				at := d.roll(len(other.values) + 1)
				other.values = slices.Insert(other.values, at, v, api.Value{Sym: "other", Has: true, Int: 1})
			}
			has[v.Sym] = true
		}
		for _, u := range j.units {
			other.units = append(other.units, api.Unit{Sym: u.Sym, Code: of("0/1: print r0")})
		}
		for _, v := range j.values {
			other.values = append(other.values, api.Value{Sym: v.Sym, Has: true, Int: 77})
		}
		if got := showOutcome(other.run()); got != want {
			t.Fatalf("%s\ngives %q, expected %q", other.show(), got, want)
		}
	}
}

// Symbols are names only.
func TestOtherSymbols(t *testing.T) {
	rename := func(sym string) string { return "p::" + strings.ToUpper(sym) + "<int>" }
	for _, j := range jobs(159, 3000) {
		want := showOutcome(j.run())
		other := j
		other.sym = rename(j.sym)
		other.units, other.values = slices.Clone(j.units), slices.Clone(j.values)
		for i := range other.units {
			u := &other.units[i]
			u.Sym, u.Code.Ops = rename(u.Sym), slices.Clone(u.Code.Ops)
			for k := range u.Code.Ops {
				u.Code.Ops[k].Sym = rename(u.Code.Ops[k].Sym)
			}
		}
		for i := range other.values {
			other.values[i].Sym = rename(other.values[i].Sym)
		}
		if got := showOutcome(other.run()); got != want {
			t.Fatalf("%s\ngives %q, expected %q", other.show(), got, want)
		}
	}
}

// No state is kept: a call returns the same after others, and beside others.
func TestRunsDoNotDependOnOthers(t *testing.T) {
	t.Parallel()
	l := jobs(160, 3000)
	results := func(j job) string {
		s := showOutcome(j.run())
		for _, u := range j.units {
			for k := range u.Code.Ops {
				s += facts(u.Code, k)
			}
			if evaluate.Sound(u.Code) {
				s += "sound"
			}
		}
		return s
	}
	var want []string
	for _, j := range l {
		want = append(want, results(j))
	}
	if n := len(slices.Compact(slices.Sorted(slices.Values(want)))); n < 2500 {
		t.Errorf("only %d results differ", n)
	}
	var wait sync.WaitGroup
	for w := range 4 {
		wait.Go(func() {
			for n := range l {
				i := (n*7 + w*31) % len(l)
				if got := results(l[i]); got != want[i] {
					t.Errorf("after other calls: %s, expected %s", got, want[i])
					return
				}
			}
		})
	}
	wait.Wait()
}
