package fact

import (
	"strconv"

	"recompile/api"
)

// Code returns the string of the code of a function.
func Code(c api.Code) string {
	return Pack([]string{strconv.Itoa(c.Params), strconv.Itoa(c.Regs), list(c.Ops, op)})
}

// ReadCode returns the code with a string, and whether there is one.
func ReadCode(s string) (api.Code, bool) {
	f := fieldsOf(s)
	return end(f, api.Code{Params: next(f, readNumber), Regs: next(f, readNumber), Ops: next(f, listOf(readOp))})
}

func op(o api.Op) string {
	return Pack([]string{strconv.Itoa(o.Kind), strconv.Itoa(o.A), strconv.Itoa(o.B), strconv.Itoa(o.C), list(o.List, strconv.Itoa), o.Sym})
}

func readOp(s string) (api.Op, bool) {
	f := fieldsOf(s)
	return end(f, api.Op{
		Kind: next(f, readNumber),
		A:    next(f, readNumber),
		B:    next(f, readNumber),
		C:    next(f, readNumber),
		List: next(f, listOf(readNumber)),
		Sym:  next(f, readText),
	})
}
