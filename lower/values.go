package lower

import (
	"strconv"
	"strings"

	"recompile/api"
)

// noValue is the register that stands for the value of a node without one.
const noValue = 0

// value appends the operations of a node, and returns the register with its value.
func (w *writer) value(t api.Tree) int {
	switch t.Kind {
	case api.KInt:
		return w.integer(t.Text)
	case api.KBool:
		return w.truth(t.Text)
	case api.KUnit:
		return w.constant(0)
	case api.KLocal:
		return w.local(t.Text)
	case api.KGlobal:
		return w.result(api.Op{Kind: api.OpGlobal, Sym: t.Text})
	case api.KCall:
		return w.result(api.Op{Kind: api.OpCall, List: w.values(t.Kids), Sym: w.target(t.Text)})
	case api.KNew:
		return w.result(api.Op{Kind: api.OpNew, List: w.values(t.Kids)})
	case api.KDot:
		return w.field(t)
	case api.KUnary:
		return w.unary(t)
	case api.KBinary:
		return w.binary(t)
	case api.KIf:
		return w.choice(t)
	case api.KBlock:
		return w.block(t)
	case api.KLet, api.KAssign, api.KWhile, api.KPrint, api.KDo:
		w.statement(t)
		return noValue
	}
	return w.bad()
}

// bad appends what has no value at run time.
func (w *writer) bad() int { return w.result(api.Op{Kind: api.OpGlobal}) }

func (w *writer) constant(n int) int { return w.result(api.Op{Kind: api.OpConst, C: n}) }

// kid appends the operations of a Kid, which may be missing.
func (w *writer) kid(t api.Tree, k int) int {
	if k >= len(t.Kids) {
		return w.bad()
	}
	return w.value(t.Kids[k])
}

// values appends the operations of several nodes, and returns the registers with their values.
func (w *writer) values(l []api.Tree) []int {
	var out []int
	for _, t := range l {
		out = append(out, w.value(t))
	}
	return out
}

func (w *writer) integer(text string) int {
	n, err := strconv.Atoi(text)
	if err != nil || len(text) > api.MaxDigits || strings.Trim(text, "0123456789") != "" {
		return w.bad()
	}
	return w.constant(n)
}

func (w *writer) truth(text string) int {
	if text == "true" {
		return w.constant(1)
	}
	return w.constant(0)
}

func (w *writer) local(text string) int {
	r, ok := w.variables[text]
	if !ok {
		return w.bad()
	}
	return w.result(api.Op{Kind: api.OpCopy, B: r})
}

func (w *writer) field(t api.Tree) int {
	n, err := strconv.Atoi(t.Text)
	if err != nil || n < 0 || strconv.Itoa(n) != t.Text {
		return w.bad()
	}
	return w.result(api.Op{Kind: api.OpLoad, B: w.kid(t, 0), C: n})
}

func (w *writer) unary(t api.Tree) int {
	kind := api.OpNeg
	if t.Text == "!" {
		kind = api.OpNot
	}
	return w.result(api.Op{Kind: kind, B: w.kid(t, 0)})
}

func (w *writer) binary(t api.Tree) int {
	if t.Text == "&&" || t.Text == "||" {
		return w.logic(t)
	}
	b := w.kid(t, 0)
	return w.result(api.Op{Kind: operation(t.Text), B: b, C: w.kid(t, 1)})
}

// operation returns the kind of the operation for a sign between two operands.
func operation(sign string) int {
	switch sign {
	case "-":
		return api.OpSub
	case "*":
		return api.OpMul
	case "/":
		return api.OpDiv
	case "%":
		return api.OpRem
	case "<":
		return api.OpLess
	case "==":
		return api.OpEqual
	}
	return api.OpAdd
}

// logic appends a KBinary whose second Kid is not run where the first one decides.
func (w *writer) logic(t api.Tree) int {
	r := w.result(api.Op{Kind: api.OpCopy, B: w.kid(t, 0)})
	goesOn := r
	if t.Text == "||" {
		goesOn = w.result(api.Op{Kind: api.OpNot, B: r})
	}
	end := w.jumpFrom(api.OpZero, goesOn)
	w.copyTo(r, w.kid(t, 1))
	end()
	return r
}

func (w *writer) choice(t api.Tree) int {
	condition := w.kid(t, 0)
	r := w.register()
	otherwise := w.jumpFrom(api.OpZero, condition)
	w.copyTo(r, w.kid(t, 1))
	end := w.jumpFrom(api.OpJump, 0)
	otherwise()
	w.copyTo(r, w.kid(t, 2))
	end()
	return r
}

func (w *writer) block(t api.Tree) int {
	r := noValue
	for _, k := range t.Kids {
		r = w.value(k)
	}
	return r
}
