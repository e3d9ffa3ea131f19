package evaluate_test

import (
	"math/big"
	"strings"

	"recompile/api"
)

// The second reading of the chapter: frames are calls, registers are maps of big numbers that are brought back to 64 bits, and a trap is a panic.

// named has, for each kind, the fields that are registers (L: those in List), and P if C is a position.
var named = map[int]string{
	api.OpConst: "A", api.OpCopy: "AB", api.OpAdd: "ABC", api.OpSub: "ABC", api.OpMul: "ABC", api.OpDiv: "ABC", api.OpRem: "ABC", api.OpLess: "ABC", api.OpEqual: "ABC", api.OpNot: "AB", api.OpNeg: "AB",
	api.OpJump: "P", api.OpZero: "BP", api.OpCall: "AL", api.OpNew: "AL", api.OpLoad: "AB", api.OpPrint: "B", api.OpReturn: "B", api.OpGlobal: "A",
}

// names returns the registers that an operation names in some of its fields.
func names(o api.Op, fields string) []int {
	var out []int
	for _, f := range fields {
		switch {
		case !strings.ContainsRune(named[o.Kind], f):
		case f == 'A':
			out = append(out, o.A)
		case f == 'B':
			out = append(out, o.B)
		case f == 'C':
			out = append(out, o.C)
		case f == 'L':
			out = append(out, o.List...)
		}
	}
	return out
}

func hasPosition(o api.Op) bool { return strings.Contains(named[o.Kind], "P") }

// isBad reports whether an operation of a code is bad, but for loads.
func isBad(c api.Code, o api.Op) bool {
	if named[o.Kind] == "" || hasPosition(o) && (o.C < 0 || o.C > len(c.Ops)-1) {
		return true
	}
	for _, r := range names(o, "ABCL") {
		if r < 0 || r > c.Regs-1 {
			return true
		}
	}
	return false
}

// trap ends a run.
type trap int

func when(is bool, n int) {
	if is {
		panic(trap(n))
	}
}

// bank has registers; one that was not written has 0.
type bank map[int]*big.Int

func (b bank) at(k int) *big.Int {
	if n, ok := b[k]; ok {
		return n
	}
	return new(big.Int)
}

// reader is a run.
type reader struct {
	job
	made    int // steps
	open    int // frames
	cells   int
	records map[string][]*big.Int
	prints  []int
	last    api.Op // that was looked at
}

// read returns the outcome of a run.
func (j job) read() api.Outcome {
	out, _ := j.readWith()
	return out
}

// readWith also returns what is known of the run.
func (j job) readWith() (out api.Outcome, r *reader) {
	j.steps = max(0, min(j.steps, api.MaxSteps))
	r = &reader{job: j, records: map[string][]*big.Int{}}
	defer func() {
		if n, ok := recover().(trap); ok {
			out = api.Outcome{Trap: int(n), Prints: r.prints}
		}
	}()
	var args []*big.Int
	for _, n := range j.args {
		args = append(args, big.NewInt(int64(n)))
	}
	r.link(j.sym, len(args))
	value := r.call(j.sym, args)
	return api.Outcome{Value: int(value.Int64()), Prints: r.prints}, r
}

// unit returns the first unit with a symbol.
func (r *reader) unit(sym string) *api.Code {
	for i := range r.units {
		if r.units[i].Sym == sym {
			return &r.units[i].Code
		}
	}
	return nil
}

// constant returns the first value with a symbol.
func (r *reader) constant(sym string) api.Value {
	for _, v := range r.values {
		if v.Sym == sym {
			return v
		}
	}
	return api.Value{}
}

// link ends the run if a call of a symbol is not possible.
func (r *reader) link(sym string, args int) {
	c := r.unit(sym)
	when(c == nil, api.TrapLink)
	when(c.Params != args, api.TrapLink)
	when(c.Params < 0, api.TrapBad)
	when(c.Params > c.Regs, api.TrapBad)
	when(c.Regs > api.MaxNodes, api.TrapBad)
	when(r.open >= api.MaxFrames, api.TrapFrames)
}

// call returns what a function returns.
func (r *reader) call(sym string, args []*big.Int) *big.Int {
	r.open++
	c := *r.unit(sym)
	regs := bank{}
	for i, n := range args {
		regs[i] = n
	}
	for at := 0; ; {
		r.before(c, at, regs)
		o := c.Ops[at]
		r.made++
		at++
		switch o.Kind {
		case api.OpReturn:
			r.open--
			return regs.at(o.B)
		case api.OpPrint:
			r.prints = append(r.prints, int(regs.at(o.B).Int64()))
		case api.OpJump:
			at = o.C
		case api.OpZero:
			if regs.at(o.B).Sign() == 0 {
				at = o.C
			}
		default:
			regs[o.A] = wrapped(r.result(o, regs))
		}
	}
}

// before ends the run if there is a trap before an operation, in the order of the chapter.
func (r *reader) before(c api.Code, at int, regs bank) {
	r.last = api.Op{}
	when(r.made == r.steps, api.TrapSteps)
	when(at > len(c.Ops)-1, api.TrapBad)
	o := c.Ops[at]
	r.last = o
	when(isBad(c, o), api.TrapBad)
	if o.Kind == api.OpLoad {
		fields, ok := r.records[regs.at(o.B).String()]
		when(!ok || o.C < 0 || o.C > len(fields)-1, api.TrapBad)
	}
	when((o.Kind == api.OpDiv || o.Kind == api.OpRem) && regs.at(o.C).Sign() == 0, api.TrapZero)
	if o.Kind == api.OpCall {
		r.link(o.Sym, len(o.List))
	}
	when(o.Kind == api.OpNew && r.cells+1+len(o.List) > api.MaxCells, api.TrapCells)
	when(o.Kind == api.OpGlobal && !r.constant(o.Sym).Has, api.TrapConst)
}

// result returns what an operation writes, before it wraps.
func (r *reader) result(o api.Op, regs bank) *big.Int {
	var list []*big.Int
	for _, k := range names(o, "L") {
		list = append(list, regs.at(k))
	}
	out := new(big.Int)
	switch o.Kind {
	case api.OpConst:
		return big.NewInt(int64(o.C))
	case api.OpGlobal:
		return big.NewInt(int64(r.constant(o.Sym).Int))
	case api.OpCall:
		return r.call(o.Sym, list)
	case api.OpNew:
		r.cells += 1 + len(list)
		number := big.NewInt(int64(len(r.records) + 1))
		r.records[number.String()] = list
		return number
	case api.OpLoad:
		return r.records[regs.at(o.B).String()][o.C]
	case api.OpCopy:
		return regs.at(o.B)
	case api.OpNot:
		return out.Sub(big.NewInt(1), regs.at(o.B))
	case api.OpNeg:
		return out.Neg(regs.at(o.B))
	}
	return ofTwo(o.Kind, regs.at(o.B), regs.at(o.C))
}

func ofTwo(kind int, b, c *big.Int) *big.Int {
	out := new(big.Int)
	switch kind {
	case api.OpAdd:
		return out.Add(b, c)
	case api.OpSub:
		return out.Sub(b, c)
	case api.OpMul:
		return out.Mul(b, c)
	case api.OpDiv:
		return out.Quo(b, c)
	case api.OpRem:
		return out.Rem(b, c)
	}
	if kind == api.OpLess && b.Cmp(c) < 0 || kind == api.OpEqual && b.Cmp(c) == 0 {
		out.SetInt64(1)
	}
	return out
}

// wrapped returns a number of 64 bits.
func wrapped(n *big.Int) *big.Int {
	all := new(big.Int).Lsh(big.NewInt(1), 64)
	out := new(big.Int).Mod(n, all)
	if out.Bit(63) == 1 {
		out.Sub(out, all)
	}
	return out
}
