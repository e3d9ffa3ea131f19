package lower

import "recompile/api"

// writer writes the code of a definition.
type writer struct {
	code      api.Code
	variables map[string]int      // the registers of the variables that are known so far
	target    func(string) string // the symbol that a KCall with a Text calls
}

// tooLong ends the writing of code that would have too many operations.
type tooLong struct{}

func newWriter(params []string, target func(string) string) *writer {
	w := &writer{code: api.Code{Params: len(params), Regs: len(params)}, variables: map[string]int{}, target: target}
	for i, name := range params {
		w.variables[name] = i
	}
	return w
}

// definition returns the code of a definition.
func (w *writer) definition(t api.Tree) (c api.Code) {
	defer func() {
		if _, stopped := recover().(tooLong); stopped {
			c = withoutValue(w.code.Params)
		}
	}()
	w.add(api.Op{Kind: api.OpReturn, B: w.value(t.Kids[len(t.Kids)-1])})
	w.code.Regs = max(w.code.Regs, 1)
	return w.code
}

// add appends an operation.
func (w *writer) add(o api.Op) {
	if len(w.code.Ops) == api.MaxCode {
		panic(tooLong{})
	}
	w.code.Ops = append(w.code.Ops, o)
}

// register returns a new register.
func (w *writer) register() int {
	w.code.Regs++
	return w.code.Regs - 1
}

// result appends an operation that writes a new register, and returns this register.
func (w *writer) result(o api.Op) int {
	o.A = w.register()
	w.add(o)
	return o.A
}

func (w *writer) copyTo(r, from int) { w.add(api.Op{Kind: api.OpCopy, A: r, B: from}) }

// here is the position of the next operation.
func (w *writer) here() int { return len(w.code.Ops) }

// jumpFrom appends a jump that looks at a register. It leads to where the function that it returns is called.
func (w *writer) jumpFrom(kind, b int) func() {
	at := w.here()
	w.add(api.Op{Kind: kind, B: b})
	return func() { w.code.Ops[at].C = w.here() }
}
