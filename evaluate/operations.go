package evaluate

import (
	"slices"

	"recompile/api"
)

// fields says which fields of an operation are registers: A is written, the others are read.
type fields struct{ a, b, c, list bool }

// registersOf returns the fields that are registers in an operation of a kind, and whether there is such a kind.
func registersOf(kind int) (fields, bool) {
	switch kind {
	case api.OpConst, api.OpGlobal:
		return fields{a: true}, true
	case api.OpCopy, api.OpNot, api.OpNeg, api.OpLoad:
		return fields{a: true, b: true}, true
	case api.OpAdd, api.OpSub, api.OpMul, api.OpDiv, api.OpRem, api.OpLess, api.OpEqual:
		return fields{a: true, b: true, c: true}, true
	case api.OpCall, api.OpNew:
		return fields{a: true, list: true}, true
	case api.OpZero, api.OpPrint, api.OpReturn:
		return fields{b: true}, true
	case api.OpJump:
		return fields{}, true
	}
	return fields{}, false
}

// isOperation reports whether a code has an operation k.
func isOperation(c api.Code, k int) bool { return k >= 0 && k < len(c.Ops) }

// operation returns operation k, and the zero Op, whose kind is none, if there is none.
func operation(c api.Code, k int) api.Op {
	if !isOperation(c, k) {
		return api.Op{}
	}
	return c.Ops[k]
}

// Reads returns the registers that operation k reads.
func Reads(c api.Code, k int) []int {
	o := operation(c, k)
	is, _ := registersOf(o.Kind)
	var out []int
	if is.b {
		out = append(out, o.B)
	}
	if is.c {
		out = append(out, o.C)
	}
	if is.list {
		out = append(out, o.List...)
	}
	return out
}

// Writes returns the register that operation k writes, and whether it writes one.
func Writes(c api.Code, k int) (int, bool) {
	o := operation(c, k)
	if is, _ := registersOf(o.Kind); !is.a {
		return 0, false
	}
	return o.A, true
}

// Targets returns the positions to which operation k may go.
func Targets(c api.Code, k int) []int {
	o := operation(c, k)
	switch o.Kind {
	case api.OpJump:
		return []int{o.C}
	case api.OpZero:
		return []int{k + 1, o.C}
	case api.OpReturn:
		return nil
	}
	if _, ok := registersOf(o.Kind); !ok {
		return nil
	}
	return []int{k + 1}
}

// bad reports whether there is no operation k, or it is bad, whatever the registers have.
func bad(c api.Code, k int) bool {
	o := operation(c, k)
	is, ok := registersOf(o.Kind)
	none := func(r int) bool { return r < 0 || r >= c.Regs }
	switch {
	case !ok, is.a && none(o.A), is.b && none(o.B), is.c && none(o.C), is.list && slices.ContainsFunc(o.List, none):
		return true
	case o.Kind == api.OpJump, o.Kind == api.OpZero:
		return !isOperation(c, o.C)
	}
	return false
}

// Sound reports whether code is never bad, but for its loads.
func Sound(c api.Code) bool {
	if c.Params < 0 || c.Params > c.Regs || c.Regs > api.MaxNodes || len(c.Ops) == 0 {
		return false
	}
	outside := func(k int) bool { return !isOperation(c, k) }
	for k := range c.Ops {
		if bad(c, k) || slices.ContainsFunc(Targets(c, k), outside) {
			return false
		}
	}
	return true
}
