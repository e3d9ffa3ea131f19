package evaluate_test

import (
	"math"
	"slices"
	"testing"

	"recompile/api"
	"recompile/evaluate"
)

// readSound is Sound after the second reading.
func readSound(c api.Code) bool {
	if !(0 <= c.Params && c.Params <= c.Regs && c.Regs <= api.MaxNodes && len(c.Ops) >= 1) {
		return false
	}
	for k, o := range c.Ops {
		past := k+1 == len(c.Ops) && o.Kind != api.OpReturn && o.Kind != api.OpJump
		if isBad(c, o) || past {
			return false
		}
	}
	return true
}

func checkSound(t *testing.T, c api.Code, want bool) {
	t.Helper()
	if got := evaluate.Sound(c); got != want {
		t.Errorf("%+v: %t, expected %t", c, got, want)
	}
	if got := readSound(c); got != want {
		t.Errorf("%+v is read as %t, expected %t", c, got, want)
	}
}

func TestSound(t *testing.T) {
	for text, want := range map[string]bool{
		"0/1: return r0": true, "1/1: return r0": true, "0/1: r0 = 1, return r0": true, "2/3: r2 = r0 + r1, return r2": true, "0/0: go 0": true, "0/20000: return r19999": true, "20000/20000: return r19999": true,
		// Params and Regs
		"-1/1: return r0": false, "-1/0: go 0": false, "-9223372036854775808/1: return r0": false, "2/1: return r0": false, "1/0: go 0": false, "9223372036854775807/1: return r0": false, "0/-1: go 0": false, "-1/-1: go 0": false, "-2/-1: go 0": false, "0/20001: return r0": false, "0/9223372036854775807: return r0": false, "20001/20001: return r0": false,
		// no operations
		"0/1:": false, "0/0:": false, "1/1:": false,
		// ways past the last one
		"0/1: r0 = 1": false, "0/1: return r0, r0 = 1": false, "0/1: return r0, print r0": false, "0/1: go 0, zero r0 0": false, "0/1: zero r0 0": false, "0/1: zero r0 0, return r0": true, "0/1: return r0, go 0": true, "0/1: go 0, return r0": true, "0/1: go 1, go 0": true, "0/1: return r0, r0 = call f()": false, "0/1: r0 = call f(), return r0": true, "0/1: return r0, r0 = r0.0": false, "0/1: r0 = new()": false,
		// jumps
		"0/1: go 1": false, "0/1: go 1, return r0": true, "0/1: go 2, return r0": false, "0/1: go -1, return r0": false, "0/1: zero r0 1, return r0": true, "0/1: zero r0 2, return r0": false, "0/1: zero r0 -1, return r0": false, "0/1: return r0, go 2": false, "0/1: return r0, go 1": true, "0/1: return r0, zero r0 0": false,
		// loads that find nothing
		"0/1: r0 = r0.0, return r0": true, "0/1: r0 = r0.-1, return r0": true, "0/1: r0 = r0.99999, return r0": true, "0/1: r1 = r0.0, return r0": false, "0/1: r0 = r1.0, return r0": false,
		// traps do not matter
		"0/1: r0 = r0 / r0, return r0": true, "0/1: r0 = call none(), return r0": true, "0/1: r0 = call (r0 r0), return r0": true, "0/1: r0 = global, return r0": true, "0/1: r0 = new(" + list(api.MaxCells) + "), return r0": true, "0/0: go 1, go 0": true,
		// what is not reached does
		"0/1: return r0, r1 = 1, return r0": false, "0/1: return r0, r0 = 1, return r0": true,
	} {
		checkSound(t, of(text), want)
	}
}

// Each register that is none, each kind that is none, and each jump out of the code breaks it, wherever it stands.
func TestSoundWithOneBadOperation(t *testing.T) {
	for text := range fine {
		o := op(text)
		c := after(o).units[0].Code
		checkSound(t, c, true)
		eachRegister(o, func(field rune, i int) {
			for _, n := range append([]int{4, 5}, wild...) {
				c.Ops[4] = set(o, field, i, n)
				checkSound(t, c, false)
			}
			for n := range 4 {
				c.Ops[4] = set(o, field, i, n)
				checkSound(t, c, true)
			}
		})
		for _, n := range append([]int{len(c.Ops)}, wild...) {
			c.Ops[4] = set(o, 'C', 0, n)
			checkSound(t, c, !hasPosition(o) && !slices.Contains(names(c.Ops[4], "C"), n))
		}
		for _, kind := range []int{api.OpConst - 1, api.OpGlobal + 1, -1, 100, math.MinInt, math.MaxInt} {
			c.Ops[4] = o
			c.Ops[4].Kind = kind
			checkSound(t, c, false)
		}
	}
	plain := of("0/2: r0 = 1, zero r0 3, r1 = r0, print r1, go 5, return r1")
	for k := range plain.Ops {
		for _, wrong := range []string{"r2 = 1", "print r-1", "go 6", "go -1", "zero r0 6"} {
			c := plain
			c.Ops = slices.Clone(plain.Ops)
			checkSound(t, c, true)
			c.Ops[k] = op(wrong)
			checkSound(t, c, false)
			c.Ops[k] = api.Op{}
			checkSound(t, c, false)
		}
	}
}

// Fields that a kind does not name do not matter.
func TestSoundWithOtherFields(t *testing.T) {
	for text := range fine {
		c := after(op(text)).units[0].Code
		for _, n := range wild {
			for _, field := range "ABC" {
				c.Ops[4] = op(text)
				if slices.ContainsFunc([]rune(named[c.Ops[4].Kind]), func(f rune) bool { return f == field || f == 'P' && field == 'C' }) {
					continue
				}
				c.Ops[4] = set(c.Ops[4], field, 0, n)
				checkSound(t, c, true)
			}
			if c.Ops[4] = op(text); len(names(c.Ops[4], "L")) == 0 {
				c.Ops[4].List, c.Ops[4].Sym = []int{n}, "none"
				checkSound(t, c, true)
			}
		}
	}
}

func TestSoundOfGeneratedCode(t *testing.T) {
	d := &dice{151}
	sound := 0
	for range 40000 {
		c := d.code(d.roll(4), d.roll(5)-1, d.roll(6))
		if d.roll(4) == 0 {
			c.Params -= d.roll(4)
		}
		want := readSound(c)
		if want {
			sound++
		}
		checkSound(t, c, want)
	}
	if sound < 2000 {
		t.Errorf("only %d are sound", sound)
	}
}
