package evaluate_test

import (
	"fmt"
	"strconv"
	"strings"
	"testing"

	"recompile/api"
	"recompile/evaluate"
)

// signs are those of the operations that have two operands.
var signs = map[string]int{"+": api.OpAdd, "-": api.OpSub, "*": api.OpMul, "/": api.OpDiv, "%": api.OpRem, "<": api.OpLess, "==": api.OpEqual}

// atoi reads a number or a register, as "7" or "r7".
func atoi(text string) int {
	n, err := strconv.Atoi(strings.TrimPrefix(text, "r"))
	if err != nil {
		panic(err)
	}
	return n
}

// op reads an operation, as "r2 = r0 + r1".
func op(text string) api.Op {
	words := strings.Fields(text)
	switch words[0] {
	case "go":
		return api.Op{Kind: api.OpJump, C: atoi(words[1])}
	case "zero":
		return api.Op{Kind: api.OpZero, B: atoi(words[1]), C: atoi(words[2])}
	case "print":
		return api.Op{Kind: api.OpPrint, B: atoi(words[1])}
	case "return":
		return api.Op{Kind: api.OpReturn, B: atoi(words[1])}
	}
	o := written(strings.TrimSpace(strings.SplitN(text, "=", 2)[1]))
	o.A = atoi(words[0])
	return o
}

// written reads what an operation writes to a register.
func written(text string) api.Op {
	words := strings.Fields(text)
	before, list, _ := strings.Cut(strings.TrimSuffix(text, ")"), "(")
	field := strings.Split(text, ".")
	switch {
	case strings.HasPrefix(text, "call "):
		return api.Op{Kind: api.OpCall, Sym: strings.TrimPrefix(before, "call "), List: registers(list)}
	case strings.HasPrefix(text, "new("):
		return api.Op{Kind: api.OpNew, List: registers(list)}
	case words[0] == "global":
		return api.Op{Kind: api.OpGlobal, Sym: strings.TrimPrefix(strings.TrimPrefix(text, "global"), " ")}
	case len(words) == 3:
		return api.Op{Kind: signs[words[1]], B: atoi(words[0]), C: atoi(words[2])}
	case len(field) == 2:
		return api.Op{Kind: api.OpLoad, B: atoi(field[0]), C: atoi(field[1])}
	case strings.HasPrefix(text, "!"):
		return api.Op{Kind: api.OpNot, B: atoi(text[1:])}
	case strings.HasPrefix(text, "-r"):
		return api.Op{Kind: api.OpNeg, B: atoi(text[1:])}
	case text[0] == 'r':
		return api.Op{Kind: api.OpCopy, B: atoi(text)}
	}
	return api.Op{Kind: api.OpConst, C: atoi(text)}
}

// registers reads registers with blanks between them.
func registers(text string) []int {
	var out []int
	for _, r := range strings.Fields(text) {
		out = append(out, atoi(r))
	}
	return out
}

// of reads a code, as "0/3: r0 = 1, r1 = 2, r2 = r0 + r1, return r2": its parameters, its registers, and its operations.
func of(text string) api.Code {
	head, rest, _ := strings.Cut(text, ":")
	params, regs, _ := strings.Cut(head, "/")
	c := api.Code{Params: atoi(params), Regs: atoi(regs)}
	for _, o := range strings.Split(rest, ",") {
		if strings.TrimSpace(o) != "" {
			c.Ops = append(c.Ops, op(strings.TrimSpace(o)))
		}
	}
	return c
}

// units reads units with semicolons between them, as "main 0/1: r0 = 7, return r0; f 1/1: return r0".
func units(text string) []api.Unit {
	var out []api.Unit
	for _, u := range strings.Split(text, ";") {
		if sym, code, ok := strings.Cut(strings.TrimLeft(u, " \n\t"), " "); ok {
			out = append(out, api.Unit{Sym: sym, Code: of(code)})
		}
	}
	return out
}

// constants reads values, as "a=7 b c=-1": b has none.
func constants(text string) []api.Value {
	var out []api.Value
	for _, v := range strings.Fields(text) {
		sym, number, has := strings.Cut(v, "=")
		value := api.Value{Sym: sym, Has: has}
		if has {
			value.Int = atoi(number)
		}
		out = append(out, value)
	}
	return out
}

var trapNames = map[int]string{api.TrapZero: "zero", api.TrapSteps: "steps", api.TrapFrames: "frames", api.TrapCells: "cells", api.TrapConst: "const", api.TrapLink: "link", api.TrapBad: "bad"}

// showOutcome writes what was printed and the value, as "1 2 value 3", or the trap, as "1 2 steps".
func showOutcome(o api.Outcome) string {
	var words []string
	for _, n := range o.Prints {
		words = append(words, strconv.Itoa(n))
	}
	name, ok := trapNames[o.Trap]
	switch {
	case o.Trap == api.TrapNone:
		name = "value " + strconv.Itoa(o.Value)
	case !ok || o.Value != 0:
		name = fmt.Sprint(name, " with ", o.Trap, " and ", o.Value)
	}
	return strings.Join(append(words, name), " ")
}

// job is what Run is called with.
type job struct {
	units  []api.Unit
	values []api.Value
	sym    string
	args   []int
	steps  int
}

func (j job) run() api.Outcome { return evaluate.Run(j.units, j.values, j.sym, j.args, j.steps) }

// check tests the outcome of a run, and of the second reading.
func (j job) check(t *testing.T, want string) {
	t.Helper()
	if got := showOutcome(j.run()); got != want {
		t.Errorf("%s\ngives %q, expected %q", j.show(), got, want)
	}
	if got := showOutcome(j.read()); got != want {
		t.Errorf("%s\nis read as %q, expected %q", j.show(), got, want)
	}
}

func (j job) show() string {
	return fmt.Sprintf("%+v with %+v, %q, %d, %d", j.units, j.values, j.sym, j.args, j.steps)
}

// main returns the run of the unit main with many steps.
func main(text, values string, args ...int) job {
	return job{units(text), constants(values), "main", args, api.MaxSteps}
}

// checkMain tests a run of the unit main.
func checkMain(t *testing.T, text, want string) {
	t.Helper()
	main(text, "").check(t, want)
}

// dice are numbers that look accidental and are the same in every run.
type dice struct{ state uint64 }

// roll returns a number from 0 to n-1.
func (d *dice) roll(n int) int {
	d.state = d.state*6364136223846793005 + 1442695040888963407
	return int(d.state>>33) % n
}

// pick returns one of some strings.
func (d *dice) pick(l ...string) string { return l[d.roll(len(l))] }

// one returns one of some numbers.
func (d *dice) one(l ...int) int { return l[d.roll(len(l))] }
