package evaluate_test

import (
	"math"

	"recompile/api"
)

// number returns a number of a program.
func (d *dice) number() int {
	if d.roll(8) == 0 {
		return d.one(math.MaxInt, math.MinInt, math.MaxInt-1, math.MinInt+1, 1<<32, -1<<32, 3037000500, -1<<31)
	}
	return d.roll(13) - 6
}

// register returns one of so many registers, or rarely none.
func (d *dice) register(regs int) int {
	if regs < 1 || d.roll(60) == 0 {
		return d.one(-1, regs, 7)
	}
	return d.roll(regs)
}

// op returns an operation for a code with so many registers and operations.
func (d *dice) op(regs, ops int) api.Op {
	r := func() int { return d.register(regs) }
	o := api.Op{Kind: 1 + d.roll(api.OpGlobal), A: r(), B: r(), C: r()}
	if d.roll(100) == 0 {
		o.Kind = d.one(0, 20, -1)
	}
	switch o.Kind {
	case api.OpConst:
		o.C = d.number()
	case api.OpJump, api.OpZero:
		o.C = d.roll(ops+1) - d.roll(20)/19
	case api.OpLoad:
		o.C = d.roll(4) - d.roll(10)/9
	case api.OpCall, api.OpNew:
		for range d.roll(4) {
			o.List = append(o.List, r())
		}
	}
	if o.Kind == api.OpCall || o.Kind == api.OpGlobal {
		o.Sym = d.pick("f", "f", "g", "g", "h", "h", "k", "")
	}
	return o
}

// code returns a code with so many parameters, further registers and operations, and often a return.
func (d *dice) code(params, others, ops int) api.Code {
	c := api.Code{Params: params, Regs: params + others}
	for range ops {
		c.Ops = append(c.Ops, d.op(c.Regs, ops))
	}
	if d.roll(4) > 0 {
		c.Ops = append(c.Ops, api.Op{Kind: api.OpReturn, B: d.register(c.Regs)})
	}
	return c
}

// calm makes a code sound more often, and its jumps lead forward more often.
func (d *dice) calm(c api.Code) api.Code {
	for k := range c.Ops {
		o := &c.Ops[k]
		if hasPosition(*o) && d.roll(6) > 0 {
			o.C = min(k+1+d.roll(4), len(c.Ops)-1)
		}
		if o.Kind == api.OpReturn && k < len(c.Ops)-1 && d.roll(3) > 0 {
			o.Kind = api.OpPrint
		}
	}
	return c
}

// job returns a run of generated units.
func (d *dice) job() job {
	j := job{sym: "f", steps: d.one(300, 300, 300, 40, 7, 1, 0, -5)}
	counts := map[string]int{}
	for _, sym := range []string{"f", "g", "h"} {
		counts[sym] = d.roll(3)
	}
	for _, sym := range []string{"f", d.pick("f", "g", "h"), "g", "h", d.pick("f", "g", "h")} {
		j.units = append(j.units, api.Unit{Sym: sym, Code: d.calm(d.code(counts[sym], 1+d.roll(4), 1+d.roll(12)))})
	}
	for k := range j.units {
		for i, o := range j.units[k].Code.Ops {
			if n, ok := counts[o.Sym]; ok && o.Kind == api.OpCall && d.roll(12) > 0 {
				j.units[k].Code.Ops[i].List = d.list(n, j.units[k].Code.Regs)
			}
		}
	}
	for _, sym := range []string{"k", d.pick("f", "g", ""), d.pick("k", "f", "h")} {
		j.values = append(j.values, api.Value{Sym: sym, Has: d.roll(6) > 0, Int: d.number()})
	}
	for range counts["f"] {
		j.args = append(j.args, d.number())
	}
	if d.roll(30) == 0 {
		j.args = append(j.args, 1)
	}
	return j
}

func (d *dice) list(n, regs int) []int {
	var out []int
	for range n {
		out = append(out, d.register(regs))
	}
	return out
}
