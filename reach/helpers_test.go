package reach_test

import (
	"slices"
	"strings"

	"recompile/api"
)

// words reads strings with blanks between them; a "-" is the empty string.
func words(text string) []string {
	out := strings.Fields(text)
	for i, s := range out {
		if s == "-" {
			out[i] = ""
		}
	}
	return out
}

// lists reads lists with semicolons between them.
func lists(text string) [][]string {
	var out [][]string
	for _, s := range strings.Split(text, ";") {
		out = append(out, words(s))
	}
	return out
}

// faces reads faces: "f: g h; g:" are two, of which the first one calls g and h.
func faces(text string) []api.Face {
	var out []api.Face
	for _, s := range strings.Split(text, ";") {
		module, own, _ := strings.Cut(s+" ", ": ")
		out = append(out, api.Face{Module: words(module)[0], Own: words(own)})
	}
	return out
}

// equal reports whether lists of lists are equal; none and nil are.
func equal(a, b [][]string) bool { return slices.EqualFunc(a, b, slices.Equal[[]string]) }

// calling returns a code with calls.
func calling(syms ...string) api.Code {
	c := api.Code{Regs: 1}
	for _, s := range syms {
		c.Ops = append(c.Ops, api.Op{Kind: api.OpCall, Sym: s})
	}
	return c
}

// ordered are strings in their order: byte by byte, and one that begins another one before it.
var ordered = []string{"\x00", " ", "-", "0", "10", "9", ":", "<", "A", "B", "Z", "_", "a", "a\x00", "a b", "a0", "aA", "aa", "aaa", "ab", "a\x7f", "a\x80", "aé", "a\xff", "b", "p::f", "p::f<bool>", "p::f<int>", "p::f<int>\x00", "p::f<p::L<int>>", "p::fa", "z", "~", "\x7f", "\x80", "Ã", "é", "ü", "ā", "日", "\U0001F600", "\xff", "\xff\x00", "\xff\xff"}

// dice are numbers that look accidental and are the same in every run.
type dice struct{ state uint64 }

// roll returns a number from 0 to n-1.
func (d *dice) roll(n int) int {
	d.state = d.state*6364136223846793005 + 1442695040888963407
	return int(d.state>>33) % n
}

// some returns up to n strings of a list, each perhaps several times.
func (d *dice) some(l []string, n int) []string {
	var out []string
	for range d.roll(n + 1) {
		out = append(out, l[d.roll(len(l))])
	}
	return out
}

// order returns the numbers from 0 to n-1 in an order that looks accidental.
func (d *dice) order(n int) []int {
	var out []int
	for i := range n {
		out = slices.Insert(out, d.roll(i+1), i)
	}
	return out
}

// shuffled returns a list in another order.
func shuffled[T any](d *dice, l []T) []T {
	var out []T
	for _, i := range d.order(len(l)) {
		out = append(out, l[i])
	}
	return out
}

// orders calls do with all orders of the numbers from 0 to n-1.
func orders(n int, do func(order []int)) {
	var extend func(order []int)
	extend = func(order []int) {
		if len(order) == n {
			do(order)
			return
		}
		for i := range n {
			if !slices.Contains(order, i) {
				extend(append(slices.Clip(order), i))
			}
		}
	}
	extend(nil)
}

// show writes faces as faces reads them.
func show(l []api.Face) string {
	var out []string
	for _, f := range l {
		out = append(out, f.Module+": "+strings.Join(f.Own, " "))
	}
	return strings.Join(out, "; ")
}
