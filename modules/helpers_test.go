package modules_test

import (
	"slices"
	"strings"
	"testing"

	"recompile/api"
	"recompile/parser"
	"recompile/shape"
)

// parsed returns the items of a text, which has no errors.
func parsed(t *testing.T, text string) []api.Tree {
	t.Helper()
	items, errors := parser.Module(text)
	if len(errors) != 0 {
		t.Fatalf("%q has errors at %v", text, errors)
	}
	return items
}

// words reads strings with commas between them.
func words(text string) []string {
	if text == "" {
		return nil
	}
	return strings.Split(text, ",")
}

// binds reads binds: "x=a::x,y=b::z" are two.
func binds(text string) []api.Bind {
	var out []api.Bind
	for _, s := range words(text) {
		name, def, _ := strings.Cut(s, "=")
		out = append(out, api.Bind{Name: name, Def: def})
	}
	return out
}

// lists reads lists of binds with semicolons between them.
func lists(text string) [][]api.Bind {
	var out [][]api.Bind
	for _, s := range strings.Split(text, ";") {
		out = append(out, binds(s))
	}
	return out
}

// faces reads faces: "a:x,y>b,c;b:" are two, the first one with the names x and y and the re-exports b and c.
func faces(text string) []api.Face {
	var out []api.Face
	for _, s := range strings.Split(text, ";") {
		module, rest, _ := strings.Cut(s, ":")
		own, pub, _ := strings.Cut(rest, ">")
		out = append(out, api.Face{Module: module, Own: words(own), Pub: words(pub)})
	}
	return out
}

// equal reports whether lists of lists are equal; none and nil are.
func equal(a, b [][]api.Bind) bool { return slices.EqualFunc(a, b, slices.Equal[[]api.Bind]) }

// texts returns the texts of trees, which are equal only if they are.
func texts(l []api.Tree) []string {
	var out []string
	for _, t := range l {
		out = append(out, shape.Encode(t))
	}
	return out
}

// clone returns a tree that shares no memory with t.
func clone(t api.Tree) api.Tree {
	var kids []api.Tree
	for _, k := range t.Kids {
		kids = append(kids, clone(k))
	}
	t.Kids = kids
	return t
}

// cloneBinds returns lists that share no memory with l.
func cloneBinds(l [][]api.Bind) [][]api.Bind {
	var out [][]api.Bind
	for _, x := range l {
		out = append(out, slices.Clone(x))
	}
	return out
}

// dice are numbers that look accidental and are the same in every run.
type dice struct{ state uint64 }

// roll returns a number from 0 to n-1.
func (d *dice) roll(n int) int {
	d.state = d.state*6364136223846793005 + 1442695040888963407
	return int(d.state>>33) % n
}

func tree(kind int, text string, at int, kids ...api.Tree) api.Tree {
	return api.Tree{Kind: kind, Text: text, At: at, Kids: kids}
}
