package resolve

import (
	"recompile/api"
	"slices"
	"strconv"
)

// scope is what is known at a node.
type scope struct {
	known []int // the numbers of binders, each one hiding those before it with the same Text
	inSig bool  // There Self is a type parameter.
}

// bind gives a binder the next number, and returns its variable.
func (r *resolver) bind(text string) string {
	r.binders = append(r.binders, text)
	return r.variable(len(r.binders) - 1)
}

// variable returns the variable of the binder with a number.
func (r *resolver) variable(number int) string {
	return r.binders[number] + "@" + strconv.Itoa(number)
}

// known returns the variable that a name means, and whether there is one.
func (r *resolver) known(name string, s scope) (string, bool) {
	for _, number := range slices.Backward(s.known) {
		if r.binders[number] == name {
			return r.variable(number), true
		}
	}
	return "", false
}

// function returns what the Kids of a KFn become. Its arguments are known in its blocks alone, so they are added to a list that has no room in common with the one around it.
func (r *resolver) function(kids []api.Tree, s scope) []api.Tree {
	inner := s
	inner.known = s.known[:len(s.known):len(s.known)]
	out := make([]api.Tree, len(kids))
	for i, k := range kids {
		switch k.Kind {
		case api.KArgs:
			var numbers []int
			out[i], numbers = r.arguments(k, s)
			inner.known = append(inner.known, numbers...)
		case api.KBlock:
			out[i] = r.node(k, inner)
		default:
			out[i] = r.node(k, s)
		}
	}
	return out
}

// arguments returns what a KArgs of a KFn becomes, and the numbers of its KArgs.
func (r *resolver) arguments(t api.Tree, s scope) (api.Tree, []int) {
	var numbers []int
	out := make([]api.Tree, len(t.Kids))
	for i, k := range t.Kids {
		if k.Kind == api.KArg {
			numbers = append(numbers, len(r.binders))
			k.Text = r.bind(k.Text)
		}
		out[i] = r.node(k, s)
	}
	t.Kids = out
	return t, numbers
}

// block returns what the Kids of a KBlock become. Nobody looks behind the end of the list of what is known, so a block adds to it where it is: what comes behind the block writes over this.
func (r *resolver) block(kids []api.Tree, s scope) []api.Tree {
	out := make([]api.Tree, len(kids))
	for i, k := range kids {
		number := len(r.binders)
		out[i] = r.node(k, s)
		if k.Kind == api.KLet {
			s.known = append(s.known, number)
		}
	}
	return out
}
