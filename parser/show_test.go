package parser_test

import (
	"slices"
	"strconv"
	"strings"
	"testing"

	"recompile/api"
	"recompile/lexer"
	"recompile/parser"
)

// kindNames are the kinds of nodes that a text has, as the tests write them.
func kindNames() map[int]string {
	return map[int]string{
		api.KUse: "Use", api.KPubUse: "PubUse", api.KConst: "Const", api.KFn: "Fn", api.KType: "Type", api.KTrait: "Trait",
		api.KImpl: "Impl", api.KMacro: "Macro", api.KSig: "Sig", api.KParams: "Params", api.KParam: "Param", api.KArgs: "Args",
		api.KArg: "Arg", api.KSupers: "Supers", api.KTypeOf: "TypeOf", api.KInt: "Int", api.KBool: "Bool", api.KName: "Name",
		api.KCall: "Call", api.KExpand: "Expand", api.KNew: "New", api.KDot: "Dot", api.KUnary: "Unary", api.KBinary: "Binary",
		api.KIf: "If", api.KBlock: "Block", api.KUnit: "Unit", api.KLet: "Let", api.KAssign: "Assign", api.KWhile: "While",
		api.KPrint: "Print", api.KDo: "Do",
	}
}

// shown returns a tree as a text: for each node its kind, its place, its text if it has one, and its kids.
func shown(t api.Tree) string {
	s := "(" + kindNames()[t.Kind] + " " + strconv.Itoa(t.At)
	if t.Text != "" {
		s += " " + t.Text
	}
	for _, k := range t.Kids {
		s += " " + shown(k)
	}
	return s + ")"
}

func allShown(l []api.Tree) string {
	var out []string
	for _, t := range l {
		out = append(out, shown(t))
	}
	return strings.Join(out, " ")
}

// sameTree reports whether trees are equal; no kids and nil are.
func sameTree(a, b api.Tree) bool {
	return a.Kind == b.Kind && a.Text == b.Text && a.At == b.At && slices.EqualFunc(a.Kids, b.Kids, sameTree)
}

func sameTrees(a, b []api.Tree) bool { return slices.EqualFunc(a, b, sameTree) }

// example is a text with its tree as shown returns it.
type example struct{ text, want string }

// checkItems tests texts without errors.
func checkItems(t *testing.T, l []example) {
	t.Helper()
	for _, c := range l {
		items, errors := parser.Module(c.text)
		if got := allShown(items); got != c.want || len(errors) > 0 {
			t.Errorf("Module(%q)\n got %s, errors %v\nwant %s", c.text, got, errors, c.want)
		}
	}
}

// checkTrees tests texts that Expr or Type reads; without a wanted tree they are none.
func checkTrees(t *testing.T, read func(string) (api.Tree, bool), l []example) {
	t.Helper()
	for _, c := range l {
		got, ok := read(c.text)
		if c.want == "" && (ok || !sameTree(got, api.Tree{})) || c.want != "" && (!ok || shown(got) != c.want) {
			t.Errorf("%q\n got %s, %v\nwant %s", c.text, shown(got), ok, c.want)
		}
	}
}

// unmark returns a text without the marks @, and where they were.
func unmark(text string) (string, []int) {
	var out strings.Builder
	var at []int
	for i, s := range strings.Split(text, "@") {
		if i > 0 {
			at = append(at, out.Len())
		}
		out.WriteString(s)
	}
	return out.String(), at
}

// checkErrors tests texts in which each error has a mark before it. What is wanted are the items that are left.
func checkErrors(t *testing.T, l []example) {
	t.Helper()
	for _, c := range l {
		text, want := unmark(c.text)
		items, errors := parser.Module(text)
		if got := allShown(items); got != c.want || !slices.Equal(errors, want) {
			t.Errorf("Module(%q)\n got %s, errors %v\nwant %s, errors %v", text, got, errors, c.want, want)
		}
	}
}

// everyToken returns a text of each token of the language, and texts of tokens that nothing has.
func everyToken() []string {
	var out []string
	for _, s := range strings.Fields("use pub const fn type trait impl for macro let while if else print new true false int bool unit Self") {
		if !lexer.Reserved(s) {
			panic(s)
		}
		out = append(out, s)
	}
	out = append(out, strings.Fields("&& || == -> ( ) { } < > , ; : . = + - * / % !")...)
	return append(out, "a", "b7", "1", "007", "1a", "&", "|", "#", "\xff")
}

// beginsItem reports whether a token is one of the words at which reading goes on.
func beginsItem(s string) bool {
	return slices.Contains(strings.Fields("use pub const fn type trait impl macro"), s)
}

// dice are numbers that look accidental and are the same in every run.
type dice struct{ state uint64 }

// roll returns a number from 0 to n-1.
func (d *dice) roll(n int) int {
	d.state = d.state*6364136223846793005 + 1442695040888963407
	return int(d.state>>33) % n
}

func (d *dice) pick(l ...string) string { return l[d.roll(len(l))] }
