package lower_test

import (
	"strings"
	"testing"
)

func TestLocals(t *testing.T) {
	for _, c := range []struct{ args, value, want string }{
		{"x@0", "local x@0", "1/2: r1 = r0, return r1"}, {"x@0 y@1 z@2", "local y@1", "3/4: r3 = r1, return r3"}, {"x@0 y@1", "binary +(local y@1, local x@0)", "2/5: r2 = r1, r3 = r0, r4 = r2 + r3, return r4"}, {"x@0", "binary +(local x@0, local x@0)", "1/4: r1 = r0, r2 = r0, r3 = r1 + r2, return r3"},
		{"x@0", "local x@0(print(int 1))", "1/2: r1 = r0, return r1"}, {"x", "local x", "1/2: r1 = r0, return r1"},
		// without a variable: Kids do not matter
		{"", "local x@0", "0/1: r0 = global, return r0"}, {"x@0", "local x@1", "1/2: r1 = global, return r1"}, {"x@0", "local x", "1/2: r1 = global, return r1"}, {"x@0", "local", "1/2: r1 = global, return r1"}, {"x@0", "local X@0", "1/2: r1 = global, return r1"}, {"", "local x@0(print(int 1))", "0/1: r0 = global, return r0"},
		// a variable is known from its KLet on
		{"", "block(let x@0(int 1), local x@0)", "0/3: r0 = 1, r1 = r0, r2 = r1, return r2"}, {"", "block(do(local x@0), let x@0(int 1), unit)", "0/4: r0 = global, r1 = 1, r2 = r1, r3 = 0, return r3"}, {"", "block(let x@0(local x@0), unit)", "0/3: r0 = global, r1 = r0, r2 = 0, return r2"},
		{"", "block(let x@0(int 1), let y@1(local x@0), binary -(local y@1, local x@0))", "0/7: r0 = 1, r1 = r0, r2 = r1, r3 = r2, r4 = r3, r5 = r1, r6 = r4 - r5, return r6"}, {"", "block(while(bool true, block(do(local x@0), let x@0(int 1), unit)), unit)", "0/6: r0 = 1, zero r0 7, r1 = global, r2 = 1, r3 = r2, r4 = 0, go 0, r5 = 0, return r5"},
		// wherever it is
		{"", "block(block(let x@0(int 1), unit), local x@0)", "0/4: r0 = 1, r1 = r0, r2 = 0, r3 = r1, return r3"}, {"", "binary +(block(let x@0(int 1), int 2), local x@0)", "0/5: r0 = 1, r1 = r0, r2 = 2, r3 = r1, r4 = r2 + r3, return r4"}, {"", "if(bool true, let x@0(int 1), local x@0)", "0/5: r0 = 1, zero r0 6, r2 = 1, r3 = r2, r1 = r0, go 8, r4 = r3, r1 = r4, return r1"},
		{"", "call p::f(let x@0(int 1), local x@0)", "0/4: r0 = 1, r1 = r0, r2 = r1, r3 = call p::f(r0 r2), return r3"},
		// but not in what is not gone through
		{"", "block(bad(let x@0(int 1)), local x@0)", "0/2: r0 = global, r1 = global, return r1"}, {"", "block(int 1(let x@0(int 1)), local x@0)", "0/2: r0 = 1, r1 = global, return r1"}, {"", "block(dot a(let x@0(int 1)), local x@0)", "0/2: r0 = global, r1 = global, return r1"},
	} {
		checkBody(t, function(c.args, c.value), c.want)
	}
}

// Of several KArgs and KLets with one Text, the last one counts.
func TestSeveralVariablesWithOneText(t *testing.T) {
	for _, c := range []struct{ args, value, want string }{
		{"x x", "local x", "2/3: r2 = r1, return r2"}, {"x y x y", "binary +(local x, local y)", "4/7: r4 = r2, r5 = r3, r6 = r4 + r5, return r6"}, {"x y x", "assign x(local y)", "3/4: r3 = r1, r2 = r3, return r0"},
		{"x", "block(let x(local x), local x)", "1/4: r1 = r0, r2 = r1, r3 = r2, return r3"}, {"x", "block(let x(int 1), let x(int 2), local x)", "1/6: r1 = 1, r2 = r1, r3 = 2, r4 = r3, r5 = r4, return r5"}, {"", "block(let x(int 1), let x(local x), assign x(local x), local x)", "0/6: r0 = 1, r1 = r0, r2 = r1, r3 = r2, r4 = r3, r3 = r4, r5 = r3, return r5"},
		// there is no end of a variable
		{"x", "block(block(let x(int 1), unit), local x)", "1/5: r1 = 1, r2 = r1, r3 = 0, r4 = r2, return r4"}, {"x", "binary -(block(let x(int 1), local x), local x)", "1/6: r1 = 1, r2 = r1, r3 = r2, r4 = r2, r5 = r3 - r4, return r5"}, {"x", "block(let y(let x(int 1)), local x)", "1/5: r1 = 1, r2 = r1, r3 = r0, r4 = r2, return r4"},
		{"x", "let x(block(let x(int 1), local x))", "1/5: r1 = 1, r2 = r1, r3 = r2, r4 = r3, return r0"},
	} {
		checkBody(t, function(c.args, c.value), c.want)
	}
}

func TestLets(t *testing.T) {
	for value, want := range map[string]string{
		"block(let x@0(int 1), unit)": "0/3: r0 = 1, r1 = r0, r2 = 0, return r2", "block(let x@0, local x@0)": "0/3: r0 = global, r1 = r0, r2 = r1, return r2", "block(let x@0(bad), local x@0)": "0/3: r0 = global, r1 = r0, r2 = r1, return r2", "block(let(int 1), local)": "0/3: r0 = 1, r1 = r0, r2 = r1, return r2",
		"block(let x@0(int 1), let y@1(int 2), let z@2(int 3), call p::f(local z@2, local y@1, local x@0))": "0/10: r0 = 1, r1 = r0, r2 = 2, r3 = r2, r4 = 3, r5 = r4, r6 = r5, r7 = r3, r8 = r1, r9 = call p::f(r6 r7 r8), return r9",
	} {
		checkValue(t, value, want)
	}
}

func TestAssignments(t *testing.T) {
	for _, c := range []struct{ args, value, want string }{
		{"x@0", "block(assign x@0(int 1), unit)", "1/3: r1 = 1, r0 = r1, r2 = 0, return r2"}, {"x@0 y@1", "block(assign y@1(local x@0), local y@1)", "2/4: r2 = r0, r1 = r2, r3 = r1, return r3"}, {"x@0", "block(assign x@0, unit)", "1/3: r1 = global, r0 = r1, r2 = 0, return r2"}, {"x@0", "block(assign x@0(assign x@0(int 1)), unit)", "1/3: r1 = 1, r0 = r1, r0 = r0, r2 = 0, return r2"},
		{"", "block(let x@0(int 1), assign x@0(binary +(local x@0, int 2)), local x@0)", "0/6: r0 = 1, r1 = r0, r2 = r1, r3 = 2, r4 = r2 + r3, r1 = r4, r5 = r1, return r5"},
		// without its variable there is only the value
		{"", "block(assign x@0(int 1), unit)", "0/2: r0 = 1, r1 = 0, return r1"}, {"x@0", "block(assign y@0(int 1), unit)", "1/3: r1 = 1, r2 = 0, return r2"}, {"", "block(assign x@0, unit)", "0/2: r0 = global, r1 = 0, return r1"}, {"", "block(assign x@0(print(int 1)), unit)", "0/2: r0 = 1, print r0, r1 = 0, return r1"},
		{"", "block(assign x@0(int 1), let x@0(int 2), local x@0)", "0/4: r0 = 1, r1 = 2, r2 = r1, r3 = r2, return r3"}, {"", "block(assign(int 1), unit)", "0/2: r0 = 1, r1 = 0, return r1"},
		// the variable is looked for after the value
		{"", "block(assign x@0(let x@0(int 1)), local x@0)", "0/3: r0 = 1, r1 = r0, r1 = r0, r2 = r1, return r2"}, {"x", "assign x(block(let x(int 1), int 2))", "1/4: r1 = 1, r2 = r1, r3 = 2, r2 = r3, return r0"},
	} {
		checkBody(t, function(c.args, c.value), c.want)
	}
}

// A value keeps what a variable was when it was read.
func TestValuesAreCopies(t *testing.T) {
	for value, want := range map[string]string{
		"block(let x@0(int 1), call p::f(local x@0, block(assign x@0(int 2), local x@0), local x@0))": "0/7: r0 = 1, r1 = r0, r2 = r1, r3 = 2, r1 = r3, r4 = r1, r5 = r1, r6 = call p::f(r2 r4 r5), return r6",
		"block(let x@0(int 1), let y@1(local x@0), assign x@0(int 2), local y@1)":                     "0/6: r0 = 1, r1 = r0, r2 = r1, r3 = r2, r4 = 2, r1 = r4, r5 = r3, return r5",
	} {
		checkValue(t, value, want)
	}
	if got := showCode(bodyOf(function("x@0", "local x@0"))); !strings.Contains(got, "r1 = r0, return r1") {
		t.Errorf("an argument is not copied: %s", got)
	}
}
