package evaluate

import "recompile/api"

// result returns what an operation writes that goes on to the next one, or the trap.
func (r *runner) result(o api.Op, regs []int) (int, int) {
	switch o.Kind {
	case api.OpConst:
		return o.C, api.TrapNone
	case api.OpGlobal:
		return r.global(o.Sym)
	case api.OpNew:
		return r.record(values(regs, o.List))
	case api.OpLoad:
		return r.load(regs[o.B], o.C)
	case api.OpCopy:
		return regs[o.B], api.TrapNone
	case api.OpNot:
		return 1 - regs[o.B], api.TrapNone
	case api.OpNeg:
		return -regs[o.B], api.TrapNone
	}
	return ofTwo(o.Kind, regs[o.B], regs[o.C])
}

func (r *runner) global(sym string) (int, int) {
	value, ok := r.program.constant(sym)
	if !ok {
		return 0, api.TrapConst
	}
	return value, api.TrapNone
}

// record makes a record.
func (r *runner) record(numbers []int) (int, int) {
	r.cells += len(numbers) + 1
	if r.cells > api.MaxCells {
		return 0, api.TrapCells
	}
	r.records = append(r.records, numbers)
	return len(r.records), api.TrapNone
}

// load returns a field of a record. The first record is 1.
func (r *runner) load(record, field int) (int, int) {
	if record < 1 || record > len(r.records) {
		return 0, api.TrapBad
	}
	numbers := r.records[record-1]
	if field < 0 || field >= len(numbers) {
		return 0, api.TrapBad
	}
	return numbers[field], api.TrapNone
}

// ofTwo returns the result of two numbers.
func ofTwo(kind, b, c int) (int, int) {
	switch kind {
	case api.OpAdd:
		return b + c, api.TrapNone
	case api.OpSub:
		return b - c, api.TrapNone
	case api.OpMul:
		return b * c, api.TrapNone
	case api.OpLess:
		return truth(b < c), api.TrapNone
	case api.OpEqual:
		return truth(b == c), api.TrapNone
	}
	if c == 0 {
		return 0, api.TrapZero
	}
	if kind == api.OpDiv {
		return b / c, api.TrapNone
	}
	return b % c, api.TrapNone
}

func truth(is bool) int {
	if is {
		return 1
	}
	return 0
}
