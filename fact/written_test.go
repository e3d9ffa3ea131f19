package fact_test

import (
	"strings"
	"testing"

	"recompile/api"
	"recompile/fact"
)

// checkFact tests how a fact is written, and that it is read from that.
func checkFact[T any](t *testing.T, write func(T) string, read func(string) (T, bool), x T, want string) {
	t.Helper()
	if got := write(x); got != want {
		t.Errorf("%s is written %q, expected %q", exact(x), got, want)
	}
	if got, ok := read(want); !ok || exact(got) != exact(x) {
		t.Errorf("%q is read as %s, %v, expected %s", want, exact(got), ok, exact(x))
	}
}

func TestBinds(t *testing.T) {
	check := func(want string, l ...api.Bind) {
		t.Helper()
		checkFact(t, fact.Binds, fact.ReadBinds, l, want)
	}
	check("")
	check("4:0:0:", api.Bind{})
	check("9:1:a4:m::a", api.Bind{Name: "a", Def: "m::a"})
	check("9:1:a4:m::a12:3:b:c5:n::bc4:0:0:9:1:a4:m::a", api.Bind{Name: "a", Def: "m::a"}, api.Bind{Name: "b:c", Def: "n::bc"}, api.Bind{}, api.Bind{Name: "a", Def: "m::a"})
	long := strings.Repeat("n", 100)
	check("110:100:"+long+"4:m::a", api.Bind{Name: long, Def: "m::a"})
	if got := fact.Binds([]api.Bind{}); got != "" {
		t.Errorf("Binds of no binds = %q", got)
	}
}

func TestResult(t *testing.T) {
	check := func(want string, r api.Result) {
		t.Helper()
		checkFact(t, fact.Result, fact.ReadResult, r, want)
	}
	check("8:0:0:0:()0:", api.Result{})
	check("13:21:0:4:true()0:", api.Result{Tree: tree(api.KBool, "true", 0)})
	check("8:0:0:0:()14:11:1:43:-121:x", api.Result{Diags: []api.Diag{{Code: 4, Node: -12, Text: "x"}}})
	check("30:28:-3:1:+(37:1:1:x()39:2:0:())24:11:2:101:72::a8:1:01:00:", api.Result{
		Tree:  tree(api.KBinary, "+", -3, tree(api.KLocal, "x", 1), tree(api.KBad, "", 2)),
		Diags: []api.Diag{{Code: 10, Node: 7, Text: ":a"}, {}},
	})
}

func TestSignature(t *testing.T) {
	check := func(want string, x api.Signature) {
		t.Helper()
		checkFact(t, fact.Signature, fact.ReadSignature, x, want)
	}
	check("1:00:0:0:0:0:", api.Signature{})
	check("1:10:0:0:3:int0:", api.Signature{Kind: api.SigConst, Result: ty("int")})
	check("2:-10:0:2:0:0:0:", api.Signature{Kind: -1, Args: []api.Type{{}}})
	check("1:218:9:1:T4:m::S5:1:U0:9:1:a2::b0:19:12:m::L<int,$U>2:$T4:unit4:m::S", api.Signature{
		Kind: api.SigFn, Params: []api.Param{{Name: "T", Bound: "m::S"}, {Name: "U"}}, Names: []string{"a", ":b", ""},
		Args: []api.Type{ty("m::L", ty("int"), ty("$U")), ty("$T")}, Result: ty("unit"), Trait: "m::S",
	})
}

func TestHeaders(t *testing.T) {
	check := func(want string, l ...api.Header) {
		t.Helper()
		checkFact(t, fact.Headers, fact.ReadHeaders, l, want)
	}
	check("")
	check("8:0:0:0:0:", api.Header{})
	check("19:4:m::i0:4:m::S3:int", api.Header{Def: "m::i", Trait: "m::S", Type: ty("int")})
	check("47:4:m::i18:9:1:T4:n::S5:1:U0:4:m::S11:m::P<$T,$U>9:1:d0:0:0:",
		api.Header{Def: "m::i", Params: []api.Param{{Name: "T", Bound: "n::S"}, {Name: "U"}}, Trait: "m::S", Type: ty("m::P", ty("$T"), ty("$U"))}, api.Header{Def: "d"})
	if got := fact.Headers([]api.Header{}); got != "" {
		t.Errorf("Headers of no headers = %q", got)
	}
}

func TestInferred(t *testing.T) {
	check := func(want string, x api.Inferred) {
		t.Helper()
		checkFact(t, fact.Inferred, fact.ReadInferred, x, want)
	}
	check("8:0:0:0:()0:0:0:", api.Inferred{})
	check("8:0:0:0:()0:0:4:2:-1", api.Inferred{At: []int{-1}})
	check("12:37:1:3:x@0()13:10:2:111:11:?27:10:4:m::S2:?011:4:n::S3:int7:1:12:20", api.Inferred{
		Tree: tree(api.KLocal, "x@0", 1), Diags: []api.Diag{{Code: api.CodeOpen, Node: 1, Text: "?"}},
		Goals: []api.Goal{{Trait: "m::S", Type: ty("?0")}, {Trait: "n::S", Type: ty("int")}}, At: []int{1, 20},
	})
}

func TestCode(t *testing.T) {
	check := func(want string, c api.Code) {
		t.Helper()
		checkFact(t, fact.Code, fact.ReadCode, c, want)
	}
	check("1:01:00:", api.Code{})
	check("1:01:019:16:1:01:01:01:00:0:", api.Code{Ops: []api.Op{{}}})
	check("1:22:1069:27:2:141:21:01:06:1:01:14:m::f36:1:11:31:020:-92233720368547758080:0:", api.Code{Params: 2, Regs: 10, Ops: []api.Op{
		{Kind: api.OpCall, A: 2, List: []int{0, 1}, Sym: "m::f"}, {Kind: api.OpConst, A: 3, C: -1 << 63},
	}})
	check("19:922337203685477580720:-92233720368547758080:", api.Code{Params: 1<<63 - 1, Regs: -1 << 63})
}

// Facts with empty lists that are not nil are written as those without.
func TestEmptyLists(t *testing.T) {
	for _, c := range [][2]string{
		{fact.Pack([]string{}), fact.Pack(nil)},
		{fact.Result(api.Result{Diags: []api.Diag{}, Tree: api.Tree{Kids: []api.Tree{}}}), fact.Result(api.Result{})},
		{fact.Signature(api.Signature{Params: []api.Param{}, Names: []string{}, Args: []api.Type{}, Result: api.Type{Args: []api.Type{}}}), fact.Signature(api.Signature{})},
		{fact.Headers([]api.Header{{Params: []api.Param{}}}), fact.Headers([]api.Header{{}})},
		{fact.Inferred(api.Inferred{Diags: []api.Diag{}, Goals: []api.Goal{}, At: []int{}}), fact.Inferred(api.Inferred{})},
		{fact.Code(api.Code{Ops: []api.Op{}}), fact.Code(api.Code{})},
		{fact.Code(api.Code{Ops: []api.Op{{List: []int{}}}}), fact.Code(api.Code{Ops: []api.Op{{}}})},
	} {
		if c[0] != c[1] {
			t.Errorf("%q with empty lists, %q with nil", c[0], c[1])
		}
	}
}

// Types whose names are not plain are written, too. What is read from that, if there is something, has plain names.
func TestNamesThatAreNotPlain(t *testing.T) {
	for _, c := range []struct {
		t    api.Type
		text string
		read bool
	}{
		{ty("a<b>"), "4:a<b>", true}, {ty("a,b"), "3:a,b", false}, {ty("", ty("a")), "3:<a>", false}, {ty("a", ty("")), "3:a<>", false}, {ty("", ty("")), "2:<>", false}, {ty("a", ty("b,c")), "6:a<b,c>", true}, {ty("a>"), "2:a>", false}, {ty("<"), "1:<", false}, {ty("a", ty("b"), ty("")), "5:a<b,>", false},
	} {
		want := "1:00:0:0:" + c.text + "0:"
		if got := fact.Signature(api.Signature{Result: c.t}); got != want {
			t.Errorf("the signature with the result %s is written %q, expected %q", exact(c.t), got, want)
		}
		x, ok := fact.ReadSignature(want)
		if ok != c.read || ok && fact.Signature(x) != want || !ok && exact(x) != exact(api.Signature{}) {
			t.Errorf("%q is read as %s, %v", want, exact(x), ok)
		}
	}
}
