package evaluate

import "recompile/api"

// program is where what runs code finds what the code names.
type program interface {
	// function returns a function, and whether there is one.
	function(sym string) (api.Code, bool)
	// constant returns the value of a constant, and whether it has one.
	constant(sym string) (int, bool)
}

// frame is a call that is open.
type frame struct {
	code  api.Code
	first int // where its registers begin
	at    int // the operation that is next
}

// runner runs the functions of a program.
type runner struct {
	program program
	frames  []frame // the last one is running
	regs    []int   // those of all frames
	records [][]int
	cells   int
	out     api.Outcome
}

// run runs a function and returns the trap.
func (r *runner) run(sym string, args []int, steps int) int {
	if trap := r.open(sym, args); trap != api.TrapNone {
		return trap
	}
	for range min(steps, api.MaxSteps) {
		if trap := r.step(); trap != api.TrapNone || len(r.frames) == 0 {
			return trap
		}
	}
	return api.TrapSteps
}

// open opens a frame and returns the trap.
func (r *runner) open(sym string, args []int) int {
	c, ok := r.program.function(sym)
	switch {
	case !ok || c.Params != len(args): // after this, Params are not negative
		return api.TrapLink
	case c.Params > c.Regs || c.Regs > api.MaxNodes:
		return api.TrapBad
	case len(r.frames) == api.MaxFrames:
		return api.TrapFrames
	}
	r.frames = append(r.frames, frame{code: c, first: len(r.regs)})
	r.regs = append(r.regs, args...)
	r.regs = append(r.regs, make([]int, c.Regs-c.Params)...)
	return api.TrapNone
}

// leave ends the frame that is running. In the frame below it the call is the operation before the next one.
func (r *runner) leave(value int) {
	last := len(r.frames) - 1
	r.regs = r.regs[:r.frames[last].first]
	r.frames = r.frames[:last]
	if last == 0 {
		r.out.Value = value
		return
	}
	f := r.frames[last-1]
	r.regs[f.first+f.code.Ops[f.at-1].A] = value
}

// step begins an operation and returns the trap.
func (r *runner) step() int {
	f := &r.frames[len(r.frames)-1]
	if bad(f.code, f.at) {
		return api.TrapBad
	}
	o, regs := f.code.Ops[f.at], r.regs[f.first:]
	f.at++
	switch o.Kind {
	case api.OpJump:
		f.at = o.C
	case api.OpZero:
		if regs[o.B] == 0 {
			f.at = o.C
		}
	case api.OpPrint:
		r.out.Prints = append(r.out.Prints, regs[o.B])
	case api.OpReturn:
		r.leave(regs[o.B])
	case api.OpCall:
		return r.open(o.Sym, values(regs, o.List))
	default:
		value, trap := r.result(o, regs)
		regs[o.A] = value
		return trap
	}
	return api.TrapNone
}

// values returns what the registers in a list have.
func values(regs, list []int) []int {
	out := make([]int, len(list))
	for i, k := range list {
		out[i] = regs[k]
	}
	return out
}
