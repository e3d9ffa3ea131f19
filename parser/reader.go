package parser

import (
	"recompile/api"
	"slices"
)

// reader goes through the tokens of one item, expr or type. The last of all tokens is a TokEnd, which is never taken.
type reader struct {
	tokens []api.Token
	next   int  // the index of the token that comes next
	level  int  // that of the expr, block or type that is read, 0 outside of them
	self   bool // whether Self is a type
}

// rule reads a node.
type rule = func(*reader) api.Tree

// stop ends the reading of a node: nothing goes on with the token that has this index.
type stop int

// read reads a node from a token on. It returns the index of the token behind the node and true, or that of the token with which nothing goes on and false.
func read(tokens []api.Token, from int, top rule) (t api.Tree, next int, ok bool) {
	r := &reader{tokens: tokens, next: from}
	next = from // Should anything else panic, then it is the first token with which nothing goes on.
	defer func() {
		if s, stopped := recover().(stop); stopped {
			next = int(s)
		}
	}()
	t = top(r)
	return t, r.next, true
}

// fail ends the reading at the next token. It never returns; with its result it can stand where a node is read.
func (r *reader) fail() api.Tree { panic(stop(r.next)) }

func (r *reader) token() api.Token { return r.tokens[r.next] }

// here returns the place of the next token.
func (r *reader) here() int { return r.token().At }

// at reports whether the next token is a word or a mark. Only these have the texts that are asked for, so that the kind does not matter.
func (r *reader) at(sign string) bool { return r.token().Text == sign }

func (r *reader) take() api.Token {
	t := r.token()
	r.next++
	return t
}

// sign takes the next token if it is one of several, and returns it; otherwise it returns an empty text.
func (r *reader) sign(signs ...string) string {
	if slices.ContainsFunc(signs, r.at) {
		return r.take().Text
	}
	return ""
}

// took takes the next token if it is the one that is asked for.
func (r *reader) took(sign string) bool { return r.sign(sign) != "" }

// need takes a token that must be there.
func (r *reader) need(sign string) {
	if !r.took(sign) {
		r.fail()
	}
}

// name takes a name that must be there.
func (r *reader) name() string {
	if r.token().Kind != api.TokName {
		r.fail()
	}
	return r.take().Text
}

// below reads an expr, an operand, a block or a type whose level is one greater than that of what it stands in.
func (r *reader) below(part rule) api.Tree {
	if r.level == api.MaxDepth {
		return r.fail()
	}
	r.level++
	t := part(r)
	r.level--
	return t
}

func (r *reader) exprBelow() api.Tree { return r.below((*reader).expr) }

func (r *reader) blockBelow() api.Tree { return r.below((*reader).block) }

func (r *reader) typeBelow() api.Tree { return r.below((*reader).typeOf) }

// list reads one node or more, with a sign between any two of them.
func (r *reader) list(sign string, part rule) []api.Tree {
	out := []api.Tree{part(r)}
	for r.took(sign) {
		out = append(out, part(r))
	}
	return out
}

// listUpTo reads any number of nodes with commas between them, and the mark behind them.
func (r *reader) listUpTo(end string, part rule) []api.Tree {
	if r.took(end) {
		return nil
	}
	out := r.list(",", part)
	r.need(end)
	return out
}

// allUpTo reads any number of nodes with nothing between them, and the mark behind them.
func (r *reader) allUpTo(end string, part rule) []api.Tree {
	var out []api.Tree
	for !r.took(end) {
		out = append(out, part(r))
	}
	return out
}

func node(kind int, text string, at int, kids ...api.Tree) api.Tree {
	return api.Tree{Kind: kind, Text: text, At: at, Kids: kids}
}
