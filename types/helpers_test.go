package types_test

import (
	"slices"
	"strconv"
	"strings"
	"testing"

	"recompile/api"
	"recompile/types"
)

// ty returns a type with a Name and Args.
func ty(name string, args ...api.Type) api.Type { return api.Type{Name: name, Args: args} }

// of reads a type: "L<?0,int>". An empty Name stands as "_".
func of(text string) api.Type {
	t, rest := cut(text)
	if rest != "" {
		panic(text + " goes on with " + rest)
	}
	return t
}

// cut reads the type with which a text begins, and returns what is behind it.
func cut(text string) (api.Type, string) {
	end := strings.IndexAny(text+",", "<>,")
	t, rest := ty(strings.ReplaceAll(text[:end], "_", "")), text[end:]
	if !strings.HasPrefix(rest, "<") {
		return t, rest
	}
	for rest[0] != '>' {
		var k api.Type
		k, rest = cut(rest[1:])
		t.Args = append(t.Args, k)
	}
	return t, rest[1:]
}

// ofs reads types with blanks between them.
func ofs(text string) []api.Type {
	var out []api.Type
	for _, s := range strings.Fields(text) {
		out = append(out, of(s))
	}
	return out
}

// equations reads equations with blanks between them: "?0=int L<?1>=?0" are two.
func equations(text string) []api.Equation {
	var out []api.Equation
	for _, s := range strings.Fields(text) {
		a, b, _ := strings.Cut(s, "=")
		out = append(out, api.Equation{A: of(a), B: of(b)})
	}
	return out
}

// show writes a type with each Name in quotes, so that no two types look the same.
func show(t api.Type) string {
	s := strconv.Quote(t.Name)
	if len(t.Args) == 0 {
		return s
	}
	return s + "<" + shows(t.Args) + ">"
}

func shows(l []api.Type) string {
	var out []string
	for _, t := range l {
		out = append(out, show(t))
	}
	return strings.Join(out, " ")
}

func showEquations(l []api.Equation) string {
	var out []string
	for _, e := range l {
		out = append(out, show(e.A)+"="+show(e.B))
	}
	return strings.Join(out, " ")
}

// equal says in another way what Same does.
func equal(a, b api.Type) bool { return show(a) == show(b) }

// v returns a variable.
func v(n int) api.Type { return ty("?" + strconv.Itoa(n)) }

// repeat returns a list of one type n times.
func repeat(t api.Type, n int) []api.Type {
	var out []api.Type
	for range n {
		out = append(out, t)
	}
	return out
}

// deep returns a type with n levels of L around another one.
func deep(n int, t api.Type) api.Type {
	for range n {
		t = ty("L", t)
	}
	return t
}

// bottom returns the node that one comes to by the last Args.
func bottom(t api.Type) api.Type {
	for len(t.Args) > 0 {
		t = t.Args[len(t.Args)-1]
	}
	return t
}

// nodes returns all nodes of a type.
func nodes(t api.Type) []api.Type {
	out := []api.Type{t}
	for i := 0; i < len(out); i++ {
		out = append(out, out[i].Args...)
	}
	return out
}

// names returns the Names of all nodes of a type.
func names(t api.Type) []string {
	var out []string
	for _, n := range nodes(t) {
		out = append(out, n.Name)
	}
	return out
}

// checkSolve tests what Solve returns: the types that variables get, as "0=int 2=L<?1>", and the indices of what is dropped, as "0 3".
func checkSolve(t *testing.T, l []api.Equation, want, dropped string) {
	t.Helper()
	s, d := types.Solve(l)
	var got, gone []string
	for n, x := range s {
		if !equal(x, api.Type{}) {
			got = append(got, strconv.Itoa(n)+"="+show(x))
		}
	}
	for _, i := range d {
		gone = append(gone, strconv.Itoa(i))
	}
	var wanted []string
	length := 0
	for _, w := range strings.Fields(want) {
		number, x, _ := strings.Cut(w, "=")
		wanted = append(wanted, number+"="+show(of(x)))
		length, _ = strconv.Atoi(number)
		length++
	}
	if !slices.Equal(got, wanted) || len(s) != length || strings.Join(gone, " ") != dropped {
		t.Errorf("Solve of %s: %v of %d elements, dropped %v\nwanted: %v of %d elements, dropped %s", showEquations(l), got, len(s), gone, wanted, length, dropped)
	}
}

// dice are numbers that look accidental and are the same in every run.
type dice struct{ state uint64 }

// roll returns a number from 0 to n-1.
func (d *dice) roll(n int) int {
	d.state = d.state*6364136223846793005 + 1442695040888963407
	return int(d.state>>33) % n
}

// pick returns one of some strings.
func (d *dice) pick(l ...string) string { return l[d.roll(len(l))] }

// typeOf returns a type of at most some levels, whose nodes without Args have some of these Names.
func (d *dice) typeOf(levels int, leaves ...string) api.Type {
	if levels <= 1 || d.roll(3) == 0 {
		return ty(d.pick(leaves...))
	}
	t := ty(d.pick("L", "P"))
	if d.roll(16) == 0 {
		t.Name = d.pick(leaves...)
	}
	for range 1 + d.roll(2) {
		t.Args = append(t.Args, d.typeOf(levels-1, leaves...))
	}
	return t
}
