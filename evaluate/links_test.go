package evaluate_test

import (
	"math"
	"strconv"
	"strings"
	"testing"

	"recompile/api"
)

// checkCall tests a call of the unit f with so many arguments 5, 6 and so on, as the first one and as an operation.
func checkCall(t *testing.T, text string, args int, want string) {
	t.Helper()
	checkCallOf(t, "f", text, args, want)
}

func checkCallOf(t *testing.T, sym, text string, args int, want string) {
	t.Helper()
	all := []int{5, 6, 7, 8}[:args]
	job{units(text), nil, sym, all, api.MaxSteps}.check(t, want)
	caller := units("main 0/5: r0 = 5, r1 = 6, r2 = 7, r3 = 8, r4 = call " + sym + "(" + strings.Join(strings.Fields("r0 r1 r2 r3")[:args], " ") + "), return r4")
	job{append(units(text), caller...), nil, "main", nil, api.MaxSteps}.check(t, want)
}

// The first unit with a symbol is called.
func TestSymbols(t *testing.T) {
	for text, want := range map[string]string{
		"f 0/1: return r0": "value 0", "g 0/1: return r0": "link", "": "link", "ff 0/1: return r0": "link", "F 0/1: return r0": "link", "g 0/1: return r0; f 0/1: r0 = 2, return r0": "value 2", "f 0/1: r0 = 1, return r0; f 0/1: r0 = 2, return r0": "value 1", "g 0/1: return r0; f 0/1: r0 = 1, return r0; g 0/1: return r0; f 0/1: r0 = 2, return r0; f 0/1: r0 = 3, return r0": "value 1",
		// also if another one with this symbol could be called
		"f 1/1: return r0; f 0/1: return r0": "link", "f 0/1: return r0; f 1/1: return r0": "value 0", "f 0/-1: return r0; f 0/1: return r0": "bad", "f 0/1:; f 0/1: return r0": "bad", "f 0/20001: return r0; f 0/1: return r0": "bad",
	} {
		checkCall(t, text, 0, want)
	}
	// any string is a symbol
	for _, sym := range []string{"f", "p::f<int>", "p::impl Show for L[int].show<p::L<bool>>", "é", "\x00", "\xff", "\n"} {
		j := job{units: []api.Unit{{Sym: sym, Code: of("0/1: r0 = 3, return r0")}, {Sym: "main", Code: of("0/1: r0 = call f(), return r0")}}, sym: sym, steps: 9}
		j.check(t, "value 3")
		j.sym = sym + "x"
		j.check(t, "link")
		j.sym, j.units[1].Code.Ops[0].Sym = "main", sym
		j.check(t, "value 3")
		j.units[1].Code.Ops[0].Sym = "x" + sym
		j.check(t, "link")
	}
	// also the empty one
	j := job{units: []api.Unit{{Code: of("0/1: r0 = 3, return r0")}, {Sym: "main", Code: of("0/1: r0 = call (), return r0")}}, steps: 9}
	j.check(t, "value 3")
	j.sym = "main"
	j.check(t, "value 3")
	j.units = j.units[1:]
	j.check(t, "link")
	j.sym = ""
	j.check(t, "link")
	// the symbols of constants are others
	main("main 0/1: r0 = call k(), return r0", "k=3 main=4").check(t, "link")
}

func TestNumbersOfArguments(t *testing.T) {
	for params := -2; params <= 5; params++ {
		for args := range 5 {
			want := "link"
			if params == args {
				want = "value 77"
			}
			checkCall(t, "f "+strconv.Itoa(params)+"/9: r8 = 77, return r8", args, want)
		}
	}
	checkCall(t, "f 3/3: print r0, print r1, print r2, return r1", 3, "5 6 7 value 6")
	checkCall(t, "f 4/4: return r3", 4, "value 8")
	// a register can be several arguments
	checkMain(t, "main 0/2: r1 = 3, r1 = call f(r1 r0 r1), return r1; f 3/3: print r0, print r1, print r2, return r2", "3 0 3 value 3")
}

func TestParamsAndRegs(t *testing.T) {
	for _, c := range []struct {
		head, want string
		args       int
	}{
		{"0/0", "steps", 0}, {"0/1", "steps", 0}, {"1/1", "steps", 1}, {"2/2", "steps", 2}, {"4/4", "steps", 4}, {"0/20000", "steps", 0}, {"2/20000", "steps", 2},
		{"1/0", "bad", 1}, {"2/1", "bad", 2}, {"4/3", "bad", 4}, {"4/0", "bad", 4}, {"0/-1", "bad", 0}, {"1/-1", "bad", 1}, {"1/-9223372036854775808", "bad", 1}, {"0/20001", "bad", 0}, {"2/20001", "bad", 2}, {"0/9223372036854775807", "bad", 0}, {"0/4294967297", "bad", 0},
		// a wrong number of arguments is found first
		{"-1/0", "link", 0}, {"-1/-1", "link", 0}, {"-1/1", "link", 1}, {"-2/-1", "link", 0}, {"-9223372036854775808/1", "link", 0}, {"-1/20001", "link", 0}, {"1/0", "link", 0}, {"1/0", "link", 2}, {"0/-1", "link", 1}, {"0/20001", "link", 1}, {"9223372036854775807/1", "link", 0}, {"4294967296/1", "link", 0},
	} {
		checkCall(t, "f "+c.head+": go 0", c.args, c.want)
	}
	// Params can be as many as there may be registers
	c := of("20000/20000: return r19999")
	for n := range 20002 {
		if n < 19998 && n%5000 > 0 {
			continue
		}
		args := make([]int, n)
		for i := range args {
			args[i] = i
		}
		c.Params, c.Regs = n, n
		want := "value " + strconv.Itoa(n-1)
		switch {
		case n == 0:
			want = "bad"
		case n > api.MaxNodes:
			want = "bad"
		}
		c.Ops = []api.Op{{Kind: api.OpReturn, B: n - 1}}
		job{[]api.Unit{{Sym: "f", Code: c}}, nil, "f", args, 1}.check(t, want)
	}
}

// deep calls itself so often that there are as many frames as its argument and one more, and then does something.
func deep(what string) string {
	return "main 1/4: r1 = 1, zero r0 5, r0 = r0 - r1, r2 = call main(r0), return r2, " + what + ", return r3; f 0/1: r0 = 4, return r0; g 1/1: return r0; more 1/0: return r0; many 0/20001: return r0; short 0/-1: return r0"
}

func TestFrames(t *testing.T) {
	for n, want := range map[int]string{0: "value 0", 1: "value 0", api.MaxFrames - 2: "value 0", api.MaxFrames - 1: "value 0", api.MaxFrames: "frames", api.MaxFrames + 1: "frames", 1000: "frames"} {
		main(deep("print r0"), "", n).check(t, strings.Repeat("0 ", map[bool]int{true: 1}[n < api.MaxFrames])+want)
	}
	main(deep("r3 = call f()"), "", api.MaxFrames-2).check(t, "value 4")
	main(deep("r3 = call f()"), "", api.MaxFrames-1).check(t, "frames")
	// what was left does not count
	main("main 1/3: r1 = 1, zero r0 5, r2 = call f(), r0 = r0 - r1, go 1, return r2; f 0/1: r0 = call g(), return r0; g 0/1: r0 = 6, return r0", "", 1000).check(t, "value 6")
	main(deep("r3 = call f(), r3 = call f(), r3 = call f()"), "", api.MaxFrames-2).check(t, "value 4")
	checkMain(t, "main 0/1: r0 = call main(), return r0", "frames")
	checkMain(t, "main 0/1: print r0, r0 = call other(), return r0; other 0/1: r0 = call main(), return r0", strings.Repeat("0 ", api.MaxFrames/2)+"frames")
}

func TestGlobals(t *testing.T) {
	for values, want := range map[string]string{
		"k=7": "value 7", "k=0": "value 0", "k=-9223372036854775808": "value -9223372036854775808", "": "const", "l=7": "const", "k": "const", "kk=7 K=8 =9": "const", "l=1 k=2 m=3": "value 2",
		// the first one counts
		"k=1 k=2": "value 1", "k=1 k": "value 1", "k k=2": "const", "l=1 k l=2 k=3 k=4": "const", "l=1 k=2 l=3 k": "value 2", "k k": "const",
	} {
		main("main 0/2: r1 = global k, return r1; k 0/1: r0 = 5, return r0", values).check(t, want)
		main("main 0/2: r1 = call f(), return r1; f 0/1: r0 = global k, return r0", values).check(t, want)
	}
	// one without a value has none, whatever its Int is
	j := main("main 0/1: r0 = global k, return r0", "k=7 k=8")
	j.values[0].Has = false
	j.check(t, "const")
	// any string is a symbol
	for _, sym := range []string{"", "p::k", "é", "\x00", "\xff"} {
		j := main("main 0/1: r0 = global k, return r0", "k=1 other=2")
		j.units[0].Code.Ops[0].Sym = sym
		j.check(t, "const")
		j.values[1].Sym = sym
		j.check(t, "value 2")
	}
	main("main 0/2: r0 = global a, print r0, r0 = global b, print r0, r0 = global a, return r0", "a=3 b=4").check(t, "3 4 value 3")
	// they are no parameters, and their numbers no records
	main("main 0/1: r0 = global a, r0 = r0.0, return r0", "a="+strconv.Itoa(math.MaxInt)).check(t, "bad")
	main("main 0/2: r1 = new(r0), r0 = global a, r0 = r0.0, return r0", "a=1").check(t, "value 0")
}
