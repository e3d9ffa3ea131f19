package lower_test

import (
	"slices"
	"strconv"
	"testing"

	"recompile/api"
	"recompile/lower"
)

// reads returns the registers that an operation reads.
func reads(o api.Op) []int {
	switch o.Kind {
	case api.OpConst, api.OpJump, api.OpGlobal:
		return nil
	case api.OpCopy, api.OpNot, api.OpNeg, api.OpZero, api.OpLoad, api.OpPrint, api.OpReturn:
		return []int{o.B}
	case api.OpCall, api.OpNew:
		return o.List
	}
	return []int{o.B, o.C}
}

// next returns the positions at which it may go on after an operation.
func next(c api.Code, k int) []int {
	switch c.Ops[k].Kind {
	case api.OpReturn:
		return nil
	case api.OpJump:
		return []int{c.Ops[k].C}
	case api.OpZero:
		return []int{k + 1, c.Ops[k].C}
	}
	return []int{k + 1}
}

func writes(o api.Op) bool {
	return !slices.Contains([]int{api.OpJump, api.OpZero, api.OpPrint, api.OpReturn}, o.Kind)
}

// leaves says what leads out of a code: a position or a register.
func leaves(c api.Code) string {
	if len(c.Ops) == 0 || c.Params < 0 || c.Params > c.Regs {
		return "no code"
	}
	for k, o := range c.Ops {
		for _, n := range next(c, k) {
			if n < 0 || n >= len(c.Ops) {
				return "from " + strconv.Itoa(k) + " to " + strconv.Itoa(n)
			}
		}
		for _, r := range append(slices.Clone(reads(o)), o.A) {
			if r < 0 || r >= c.Regs {
				return "at " + strconv.Itoa(k) + " the register " + strconv.Itoa(r)
			}
		}
	}
	return ""
}

// unwritten says at which operation a register is read that was not written on every way to it. A register that was not written on some way is followed from the beginning on.
func unwritten(c api.Code) string {
	for r := c.Params; r < c.Regs; r++ {
		seen := make([]bool, len(c.Ops))
		left := []int{0}
		for len(left) > 0 {
			k := left[len(left)-1]
			left = left[:len(left)-1]
			if seen[k] {
				continue
			}
			seen[k] = true
			if slices.Contains(reads(c.Ops[k]), r) {
				return "at " + strconv.Itoa(k) + " the register " + strconv.Itoa(r)
			}
			if !writes(c.Ops[k]) || c.Ops[k].A != r {
				left = append(left, next(c, k)...)
			}
		}
	}
	return ""
}

// What these tests look for is found where it is.
func TestWhatIsLookedFor(t *testing.T) {
	for value, want := range map[string]string{
		"block": "at 0 the register 0", "block(do(if(bool true, let x@0(int 1), int 2)), local x@0)": "at 8 the register 3", "if(bool true, block(let x@0(int 1), local x@0), local x@0)": "at 7 the register 3", "block(while(bool true, let x@0(int 1)), local x@0)": "at 5 the register 2",
		"block(let x@0(int 1), while(local x@0, let y@1(int 2)), unit)": "", "binary &&(bool true, local x@0)": "", "block(int 1, block)": "", "binary ||(bool true, block(let x@0(int 1), local x@0))": "", "block(do(binary &&(bool true, block(let x@0(int 1), unit))), local x@0)": "at 7 the register 3",
	} {
		if got := unwritten(bodyOf(constant(value))); got != want {
			t.Errorf("%s: %q, expected %q", value, got, want)
		}
	}
	c := bodyOf(constant("binary &&(bool true, bool false)"))
	c.Ops[2].C = len(c.Ops)
	if leaves(c) != "from 2 to 6" {
		t.Errorf("out of the code: %q", leaves(c))
	}
}

// No code has a jump out of it, or an end but OpReturn.
func TestCodeHasNoWayOut(t *testing.T) {
	t.Parallel()
	d := &dice{145}
	jumps := 0
	for range 40000 {
		in := d.anyTree()
		c := lower.Body(in, d.names(), d.args(), d.targets())
		if out := leaves(c); out != "" || c.Ops[len(c.Ops)-1].Kind != api.OpReturn {
			t.Fatalf("%s became %s: %s", show(in), showCode(c), out)
		}
		for k, o := range c.Ops {
			if o.Kind == api.OpReturn && k < len(c.Ops)-1 {
				t.Fatalf("%s became %s: it returns at %d", show(in), showCode(c), k)
			}
			if o.Kind == api.OpJump || o.Kind == api.OpZero {
				jumps++
			}
		}
	}
	if jumps < 40000 {
		t.Errorf("only %d jumps", jumps)
	}
}

// scope makes trees in which each KLocal has its variable, and each node that needs a value has one.
type scope struct {
	*dice
	variables []string
	count     int
}

// value returns a node with a value.
func (s *scope) value(levels int) api.Tree {
	if levels <= 0 {
		return s.leaf()
	}
	kind := s.kindOf(api.KCall, api.KNew, api.KDot, api.KUnary, api.KBinary, api.KBinary, api.KBinary, api.KIf, api.KIf, api.KBlock, api.KBlock, api.KBlock, api.KBad)
	if kind == api.KBlock {
		return s.block(levels)
	}
	t := api.Tree{Kind: kind, Text: s.text(kind)}
	for range map[int]int{api.KCall: s.roll(4), api.KNew: s.roll(4), api.KDot: 1, api.KUnary: 1, api.KBinary: 2, api.KIf: 3}[kind] - s.roll(20)/19 {
		t.Kids = append(t.Kids, s.value(levels-1))
	}
	return t
}

func (s *scope) leaf() api.Tree {
	if len(s.variables) > 0 && s.roll(3) > 0 {
		return api.Tree{Kind: api.KLocal, Text: s.pick(s.variables...)}
	}
	kind := s.kindOf(api.KInt, api.KBool, api.KUnit, api.KGlobal, api.KBad, api.KName)
	return api.Tree{Kind: kind, Text: s.text(kind)}
}

// block returns a KBlock whose variables are known in it alone.
func (s *scope) block(levels int) api.Tree {
	before := len(s.variables)
	t := api.Tree{Kind: api.KBlock}
	for range s.roll(5) {
		t.Kids = append(t.Kids, s.statement(levels))
	}
	t.Kids = append(t.Kids, s.value(levels-1))
	s.variables = s.variables[:before]
	return t
}

func (s *scope) statement(levels int) api.Tree {
	t := api.Tree{Kind: s.kindOf(api.KLet, api.KLet, api.KLet, api.KAssign, api.KWhile, api.KWhile, api.KPrint, api.KDo)}
	t.Kids = append(t.Kids, s.value(levels-1))
	switch t.Kind {
	case api.KLet:
		t.Text = "v@" + strconv.Itoa(s.count)
		s.count++
		s.variables = append(s.variables, t.Text)
	case api.KAssign:
		t.Text = s.pick(append(s.variables, "none@0")...)
	case api.KWhile:
		t.Kids = append(t.Kids, s.block(levels-1))
	}
	return t
}

// If each KLocal has its variable, no register is read that was not written on every way to it.
func TestRegistersAreWrittenBeforeTheyAreRead(t *testing.T) {
	t.Parallel()
	d := &dice{146}
	jumps, locals, given := 0, 0, 0
	for range 8000 {
		s := &scope{dice: d}
		params := d.roll(4)
		for i := range params {
			s.variables = append(s.variables, "x@"+strconv.Itoa(i))
		}
		in := withArgs(params, s.value(2+d.roll(4)))
		c := lower.Body(in, d.names(), d.args(), d.targets())
		if out := leaves(c) + unwritten(c); out != "" {
			t.Fatalf("%s became %s: %s", show(in), showCode(c), out)
		}
		for _, o := range c.Ops {
			jumps += map[int]int{api.OpJump: 1, api.OpZero: 1}[o.Kind]
			locals += map[int]int{api.OpCopy: 1}[o.Kind]
		}
		if len(c.Ops) == 2 {
			given++
		}
	}
	if jumps < 50000 || locals < 50000 || given > 3000 {
		t.Errorf("%d jumps, %d copies, %d codes of two operations", jumps, locals, given)
	}
}
