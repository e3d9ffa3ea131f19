package infer_test

import (
	"slices"
	"strconv"
	"strings"
	"testing"

	"recompile/api"
)

// doubling are definitions with which types can double: Deep at each next.
const doubling = `
	type Pair<T, U> { x: T, y: U }
	type Deep<T> { next: Deep<Pair<T, T>>, val: T }
	fn any<T>() -> T { any() }
	fn same<T>(x: T, y: T) -> T { x }
	fn swap<T, U>(p: Pair<T, U>) -> Pair<U, T> { new Pair(p.y, p.x) }
	fn like<T>(x: T) -> Deep<T> { any() }
	`

// chain returns n statements of lets, each of the variable before it: # stands for that.
func chain(name, value string, n int) string {
	s := ""
	for i := range n {
		s += "let " + name + strconv.Itoa(i+1) + " = " + strings.ReplaceAll(value, "#", name+strconv.Itoa(i)) + "; "
	}
	return s
}

// codes returns the codes of diagnostics with their Texts, in order, each once for as many as come together.
func codes(x api.Inferred) string {
	var out []string
	for _, d := range x.Diags {
		out = append(out, strings.TrimSpace(strconv.Itoa(d.Code)+" "+d.Text))
	}
	return strings.Join(slices.Compact(out), ", ")
}

// dots returns the numbers of KDots with each Text, and of KBads.
func dots(t api.Tree) map[string]int {
	out := map[string]int{}
	change(&t, func(n *api.Tree) {
		if n.Kind == api.KDot {
			out[n.Text]++
		} else if n.Kind == api.KBad {
			out["bad"]++
		}
	})
	return out
}

// checkWide tests the diagnostics of a body of a function, how many KDots are in it with the Texts 0 and 1, and that there is no KBad.
func checkWide(t *testing.T, args, body, diags string, first, second int) {
	t.Helper()
	p := compile(t, doubling+"fn f("+args+") -> int { "+body+" }")
	got := p.body("f")
	if codes(got) != diags {
		t.Errorf("%.200s: %.400s, expected %s", body, codes(got), diags)
	}
	if d := dots(got.Tree); d["bad"] > 0 || d["0"] != first || d["1"] != second {
		t.Errorf("%.200s has %v, expected %d and %d", body, d, first, second)
	}
}

// The fields of a record have the types of its parameters, however many nodes it has.
func TestFieldsOfTypesThatDouble(t *testing.T) {
	for _, n := range []int{6, 7, 20, 200} {
		open := map[bool]string{false: "", true: "11 p::Pair"}[n > 6]
		last := "a" + strconv.Itoa(n)
		lets := "let a0 = 1; " + chain("a", "new Pair(#, #)", n)
		checkWide(t, "", lets+last+".x; 1", open, 1, 0)
		checkWide(t, "", lets+last+strings.Repeat(".y", n)+" + 1", open, 0, n)
		checkWide(t, "", lets+"print 1 + "+last+strings.Repeat(".x.y", n/2)+strings.Repeat(".x", n%2)+"; 1", open, n/2+n%2, n/2)
		checkWide(t, "", lets+"!"+last+strings.Repeat(".x", n)+"; 1", joined("9", open), n, 0)
		checkWide(t, "", lets+last+strings.Repeat(".x", n)+" == "+last+strings.Repeat(".y", n-1)+"; 1", joined("9", open), n, n-1)
	}
}

// The type of a field can have more nodes than that of the record.
func TestFieldsThatDouble(t *testing.T) {
	for _, n := range []int{1, 20, 60, 200} {
		last := strconv.Itoa(n)
		lets := chain("d", "#.next", n) + chain("e", "#.next", n)
		open := map[bool]string{false: "", true: "11 p::same"}[n > 6]
		value := ".val" + strings.Repeat(".x", n)
		checkWide(t, "d0: Deep<int>, e0: Deep<int>", lets+"d"+last+value+" + e"+last+value, "", 4*n, 2)
		checkWide(t, "d0: Deep<int>, e0: Deep<bool>", lets+"d"+last+value+" + e"+last+value, "9", 4*n, 2)
		// two of them agree, or not at their last nodes
		checkWide(t, "d0: Deep<int>, e0: Deep<int>", lets+"same(d"+last+", e"+last+"); 1", open, 2*n, 0)
		checkWide(t, "d0: Deep<int>, e0: Deep<bool>", lets+"same(d"+last+", e"+last+"); 1", joined("9", open), 2*n, 0)
		checkWide(t, "d0: Deep<int>, e0: Deep<int>", lets+"d"+last+" = e"+last+".next; 1", "9", 2*n+1, 0)
		checkWide(t, "d0: Deep<Pair<int, bool>>, e0: Deep<Pair<int, int>>", lets+"d"+last+" = e"+last+"; 1", "9", 2*n, 0)
	}
}

// A type of many nodes gives a variable in it its type, and the variable does not become one in which it is itself.
func TestVariablesInTypesThatDouble(t *testing.T) {
	for _, n := range []int{20, 60, 200} {
		last := strconv.Itoa(n)
		lets := "let z = any(); let d0 = like(z); " + chain("d", "#.next", n) + chain("e", "#.next", n)
		value := ".val" + strings.Repeat(".x", n)
		checkWide(t, "e0: Deep<int>", lets+"d"+last+" = e"+last+"; z", "", 2*n, 0)
		checkWide(t, "e0: Deep<int>", lets+"d"+last+" = e"+last+"; !z; z", "9", 2*n, 0)
		checkWide(t, "e0: Deep<int>", lets+"!d"+last+value+"; z", "9", 3*n, 1)
		checkWide(t, "e0: Deep<int>", lets+"z = d"+last+"; z", "9", 2*n, 0)
		checkWide(t, "e0: Deep<int>", lets+"d"+last+" = like(e"+last+"); z", "9, 11 p::like", 2*n, 0)
		checkWide(t, "e0: Deep<int>", lets+"z = e"+last+"; z"+value, "11 p::any, 11 p::like", 3*n, 1)
		checkWide(t, "e0: Deep<int>", lets+"z = e"+last+"; d"+last+value+value, "11 p::any, 11 p::like", 4*n, 2)
		checkWide(t, "e0: Deep<bool>", lets+"z = e"+last+"; d"+last+value+value, "9, 11 p::any, 11 p::like", 4*n, 2)
	}
}

// Types of generated programs become large by new records, by calls and by fields.
func TestGeneratedTypesThatDouble(t *testing.T) {
	t.Parallel()
	d := &dice{142}
	found := map[string]int{}
	for range 1500 {
		names := []string{"d", "d", "p", "i"}
		body := ""
		values := [][]string{
			{"new Pair(#, #)", "new Pair(#, #)", "new Pair(#, #)", "new Pair(#, #)", "#.x", "#.y", "swap(#)", "any()"},
			{"#.next", "#.next", "#.next", "#.next", "#.next", "#.next", "#.next.next", "same(#, #)", "like(#)"},
			{"new Pair(#, #)", "#.x", "#.y", "#.next", "#.next", "#.val", "same(#, #)", "swap(#)", "like(#)", "any()", "-#"},
		}[d.roll(3)]
		last := 1 + d.roll(4)
		for i := range 4 + d.roll(10) {
			before := func() string { return names[max(0, len(names)-1-d.roll(last))] }
			value := d.pick(values...)
			for strings.Contains(value, "#") {
				value = strings.Replace(value, "#", before(), 1)
			}
			names = append(names, "v"+strconv.Itoa(i))
			body += "let " + names[len(names)-1] + " = " + value + "; "
			if d.roll(6) == 0 {
				body += before() + " = " + before() + "; "
			}
		}
		p := compile(t, doubling+"fn f<T>(d: Deep<T>, p: Pair<int, T>, i: int) -> int { "+body+" 1 }")
		got := compare(t, p.trees["f"], p.known)
		for _, x := range got.Diags {
			found[strconv.Itoa(x.Code)]++
		}
		change(&got.Tree, func(n *api.Tree) {
			wide := strings.Count(n.Text, "<")+strings.Count(n.Text, ",")+1 > 100
			switch {
			case n.Kind == api.KDot:
				found["dot"]++
			case strings.HasSuffix(n.Text, ">") && wide:
				found["wide"]++
			case strings.HasSuffix(n.Text, ">") && strings.Contains(n.Text, "error"):
				found["error"]++
			}
		})
	}
	for what, least := range map[string]int{"9": 500, "10": 500, "11": 500, "dot": 2000, "wide": 30, "error": 500} {
		if found[what] < least {
			t.Errorf("only %d of %s", found[what], what)
		}
	}
}
