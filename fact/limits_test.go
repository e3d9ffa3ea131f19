package fact_test

import (
	"strconv"
	"strings"
	"testing"

	"recompile/api"
	"recompile/fact"
)

func TestManyStrings(t *testing.T) {
	const n = 1000000
	checkPack(t, make([]string, n), strings.Repeat("0:", n))
	l := make([]string, n)
	for i := range l {
		l[i] = strconv.Itoa(i)
	}
	checkPack(t, l, pk(l...))
	long := strings.Repeat("1:a", n)
	checkPack(t, []string{long, "", long}, "3000000:"+long+"0:3000000:"+long)
	// what is wrong stands at the end
	for _, end := range []string{"1", ":", "1:", "01:a", "2:a", "-1:a", "a"} {
		if got, ok := fact.Unpack(long + end); ok || len(got) != 0 {
			t.Errorf("Unpack of a long text with %q at its end: %d strings, %v", end, len(got), ok)
		}
	}
	// no colon, or none for long
	for _, s := range []string{strings.Repeat("1", 5*n), strings.Repeat("9", 5*n) + ":a", strings.Repeat("0", n) + "1:a", strings.Repeat("a", n), strings.Repeat("-", n) + ":", strings.Repeat(":", n)} {
		if got, ok := fact.Unpack(s); ok || len(got) != 0 {
			t.Errorf("Unpack of %d times %.10q: %d strings, %v", n, s, len(got), ok)
		}
	}
}

// nested returns a pack in a pack, at some levels.
func nested(levels int) string {
	s := ""
	for range levels {
		s = fact.Pack([]string{s})
	}
	return s
}

func TestPacksInPacks(t *testing.T) {
	s := nested(2000)
	for n := 2000; n > 0; n-- {
		l, ok := fact.Unpack(s)
		if !ok || len(l) != 1 {
			t.Fatalf("level %d: %d strings, %v", n, len(l), ok)
		}
		s = l[0]
	}
	if s != "" {
		t.Errorf("in all packs there is %q", s)
	}
}

func TestLargeCode(t *testing.T) {
	var c api.Code
	for i := range 100000 {
		c.Ops = append(c.Ops, api.Op{Kind: i % 20, A: i, B: -i, C: i * i, List: []int{i, 1}[:i%3], Sym: strings.Repeat("x", i%12)})
	}
	c.Ops = append(c.Ops, api.Op{List: make([]int, 300000), Sym: strings.Repeat("m::f", 100000)})
	s := fact.Code(c)
	got, ok := fact.ReadCode(s)
	if !ok || exact(got) != exact(c) || fact.Code(got) != s {
		t.Errorf("a code of %d operations is read as one of %d, %v", len(c.Ops), len(got.Ops), ok)
	}
	if got, ok := fact.ReadCode(s[:len(s)-1]); ok || got.Ops != nil {
		t.Errorf("without the last byte there is a code of %d operations", len(got.Ops))
	}
	// the last operation is wrong: nothing is left of those before it
	op := pk("15", "1", "0", "0", pk("2", "3"), "m::f")
	for _, wrong := range []string{"", "0:", op + "0", op[:len(op)-1], op + "0:"} {
		s := pk("1", "4", pk(op, op, op, wrong))
		if got, ok := fact.ReadCode(s); ok || exact(got) != exact(api.Code{}) {
			t.Errorf("ReadCode(%q) = %v, %v", s, got, ok)
		}
	}
	if got, ok := fact.ReadCode(pk("1", "4", pk(op, op, op))); !ok || len(got.Ops) != 3 {
		t.Errorf("ReadCode = %v, %v", got, ok)
	}
}

func TestDeepTreesAndTypes(t *testing.T) {
	x := tree(20, "1", 0)
	for range 60000 {
		x = tree(27, "-", 1, x)
	}
	r := api.Result{Tree: x, Diags: make([]api.Diag, 50000)}
	s := fact.Result(r)
	if got, ok := fact.ReadResult(s); !ok || fact.Result(got) != s || len(got.Diags) != 50000 {
		t.Errorf("a result with a deep tree is read with %d diagnostics, %v", len(got.Diags), ok)
	}
	if got, ok := fact.ReadResult(strings.Replace(s, "1()", "1(", 1)); ok || exact(got) != exact(api.Result{}) {
		t.Errorf("a result with a tree without an end is read")
	}
	g := ty("a")
	for range api.MaxNodes - 1 {
		g = ty("L", g)
	}
	h := []api.Header{{Type: g, Params: make([]api.Param, 30000)}, {Type: g}}
	s = fact.Headers(h)
	if got, ok := fact.ReadHeaders(s); !ok || fact.Headers(got) != s || len(got) != 2 {
		t.Errorf("headers with deep types are read as %d, %v", len(got), ok)
	}
	h[1].Type = ty("L", g)
	if got, ok := fact.ReadHeaders(fact.Headers(h)); ok || len(got) != 0 {
		t.Errorf("headers with a type of too many nodes are read as %d", len(got))
	}
	// types with more nodes, or more levels, are written
	for range 40000 {
		g = ty("L", g)
	}
	want := "1:00:0:0:" + pk(strings.Repeat("L<", api.MaxNodes+39999)+"a"+strings.Repeat(">", api.MaxNodes+39999)) + "0:"
	if got := fact.Signature(api.Signature{Result: g}); got != want {
		t.Errorf("a signature with a deep type has a string of %d bytes, expected %d", len(got), len(want))
	}
}

func TestManyElements(t *testing.T) {
	x := api.Inferred{Diags: make([]api.Diag, 50000), Goals: make([]api.Goal, 50000), At: make([]int, 50000)}
	s := fact.Inferred(x)
	if got, ok := fact.ReadInferred(s); !ok || exact(got) != exact(x) || fact.Inferred(got) != s {
		t.Errorf("%d, %d and %d elements, %v", len(got.Diags), len(got.Goals), len(got.At), ok)
	}
	y := api.Signature{Params: make([]api.Param, 50000), Names: make([]string, 50000), Args: make([]api.Type, 50000)}
	s = fact.Signature(y)
	if got, ok := fact.ReadSignature(s); !ok || exact(got) != exact(y) || fact.Signature(got) != s {
		t.Errorf("%d, %d and %d elements, %v", len(got.Params), len(got.Names), len(got.Args), ok)
	}
	b := make([]api.Bind, 200000)
	b[199999] = api.Bind{Name: "z", Def: "m::z"}
	s = fact.Binds(b)
	if got, ok := fact.ReadBinds(s); !ok || len(got) != len(b) || got[199999] != b[199999] {
		t.Errorf("%d binds, %v", len(got), ok)
	}
	if got, ok := fact.ReadBinds(s + "0:"); ok || len(got) != 0 {
		t.Errorf("%d binds before one that is none", len(got))
	}
}
