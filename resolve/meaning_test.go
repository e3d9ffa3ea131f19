package resolve_test

import (
	"slices"
	"strconv"
	"strings"
	"testing"

	"recompile/api"
	"recompile/resolve"
)

// Functions are run in two ways: as they are, where a name means the variable that is nearest around it; and after Resolve, where each variable has one place for the whole run, whatever stands around it.

// variable is one that is known, with those around it.
type variable struct {
	name  string
	value int
	up    *variable
}

// lookFor returns the variable that a name means, nil if it means none.
func (v *variable) lookFor(name string) *variable {
	for v != nil && v.name != name {
		v = v.up
	}
	return v
}

// run is what a function does.
type run struct {
	places map[string]int // the values of variables after name resolution
	events []string
	steps  int
}

func (r *run) event(s string) { r.events = append(r.events, s) }

// read returns the value of what is no variable.
func (r *run) read(text string) int {
	r.event("read " + text)
	return len(text)
}

// value returns the value of an expr.
func (r *run) value(t api.Tree, vars *variable) int {
	r.steps++
	switch t.Kind {
	case api.KInt:
		n, _ := strconv.Atoi(t.Text)
		return n
	case api.KName:
		if v := vars.lookFor(t.Text); v != nil {
			return v.value
		}
		return r.read(t.Text)
	case api.KLocal:
		v, ok := r.places[t.Text]
		if !ok {
			r.event("no value of " + t.Text)
		}
		return v
	case api.KBad, api.KGlobal:
		return r.read(t.Text)
	case api.KBinary:
		left := r.value(t.Kids[0], vars)
		return (left*3 + r.value(t.Kids[1], vars)) % 1000
	case api.KIf:
		if r.value(t.Kids[0], vars)%2 == 0 {
			return r.value(t.Kids[1], vars)
		}
		return r.value(t.Kids[2], vars)
	case api.KBlock:
		return r.block(t, vars)
	}
	return 0
}

// block returns the value of a block.
func (r *run) block(t api.Tree, vars *variable) int {
	last := len(t.Kids) - 1
	for _, k := range t.Kids[:last] {
		switch k.Kind {
		case api.KLet:
			vars = &variable{k.Text, r.value(k.Kids[0], vars), vars}
			r.let(k.Text, vars.value)
		case api.KPrint:
			r.event(strconv.Itoa(r.value(k.Kids[0], vars)))
		case api.KAssign:
			r.assign(k.Text, r.value(k.Kids[0], vars), vars)
		case api.KWhile:
			for n := 0; n < 3 && r.steps < 5000 && r.value(k.Kids[0], vars)%3 != 0; n++ {
				r.value(k.Kids[1], vars)
			}
		case api.KDo:
			r.value(k.Kids[0], vars)
		}
	}
	return r.value(t.Kids[last], vars)
}

func (r *run) let(text string, value int) {
	if r.places != nil {
		r.places[text] = value
	}
}

func (r *run) assign(text string, value int, vars *variable) {
	if r.places != nil {
		r.places[text] = value
	} else if v := vars.lookFor(text); v != nil {
		v.value = value
	}
}

// function returns what a function does with the arguments 1, 2 and so on.
func (r *run) function(t api.Tree) []string {
	var vars *variable
	for i, k := range t.Kids[1].Kids {
		vars = &variable{k.Text, i + 1, vars}
		r.let(k.Text, i+1)
	}
	r.event("value " + strconv.Itoa(r.value(t.Kids[3], vars)))
	return r.events
}

// after returns what a function does after Resolve, with the names that it had before.
func after(in api.Tree) []string {
	got := resolve.Resolve(in, binds("g=g,h=h"))
	return (&run{places: map[string]int{}}).function(got.Tree)
}

func TestFunctionsDoTheSameAfterResolve(t *testing.T) {
	for text, want := range map[string]string{
		"fn f(x: int) { let x = x + 1; x }":                             "value 4",
		"fn f(x: int, x: int) { x }":                                    "value 2",
		"fn f(x: int) { { let x = 5; x = 7; x }; x }":                   "value 1",
		"fn f(x: int) { { x = 7; let x = 5; x = 2; x }; x }":            "value 7",
		"fn f(x: int) { let y = { let x = 5; x }; x + y }":              "value 8",
		"fn f(g: int) { let g = g + h; g + { let h = g; h } }":          "read h value 16",
		"fn f() { y = 3; let y = y; y }":                                "read y value 1",
		"fn f(x: int) { while x { let y = x; x = y + y; print y; } x }": "1 4 16 value 64",
	} {
		in := item(t, text)
		if got := strings.Join((&run{}).function(in), " "); got != want {
			t.Errorf("%s: as it is: %s", text, got)
		}
		if got := strings.Join(after(in), " "); got != want {
			t.Errorf("%s: after Resolve: %s", text, got)
		}
	}
}

func (d *dice) variableName() string { return d.pick("x", "x", "y", "z", "g", "h") }

// expr returns the text of an expr.
func (d *dice) expr(depth int) string {
	if depth == 0 {
		return d.pick("1", "2", "3", d.variableName(), d.variableName(), d.variableName())
	}
	switch d.roll(6) {
	case 0, 1:
		return d.expr(depth-1) + " + (" + d.expr(depth-1) + ")"
	case 2:
		return "if " + d.expr(depth-1) + " " + d.block(depth-1) + " else " + d.block(depth-1)
	case 3:
		return d.variableName()
	}
	return d.block(depth - 1)
}

// block returns the text of a block.
func (d *dice) block(depth int) string {
	s := "{ "
	for range d.roll(5) {
		switch d.roll(7) {
		case 0, 1, 2:
			s += "let " + d.variableName() + " = " + d.expr(depth) + "; "
		case 3:
			s += d.variableName() + " = " + d.expr(depth) + "; "
		case 4:
			s += "print " + d.expr(depth) + "; "
		case 5:
			s += "(" + d.expr(depth) + "); "
		case 6:
			s += "while " + d.expr(0) + " " + d.block(max(depth-1, 0)) + " "
		}
	}
	return s + d.expr(depth) + " }"
}

func TestGeneratedFunctionsDoTheSameAfterResolve(t *testing.T) {
	d := &dice{87}
	long := 0
	for range 6000 {
		text := "fn f(x: int, " + d.variableName() + ": int) " + d.block(1+d.roll(3))
		in := item(t, text)
		want := (&run{}).function(in)
		if got := after(in); !slices.Equal(got, want) {
			t.Fatalf("%s: as it is: %q, after Resolve: %q", text, want, got)
		}
		if len(want) > 10 {
			long++
		}
	}
	if long < 500 {
		t.Errorf("only %d functions do much", long)
	}
}
