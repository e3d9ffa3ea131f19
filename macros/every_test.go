package macros_test

import (
	"slices"
	"strconv"
	"testing"

	"recompile/api"
	"recompile/macros"
)

// These are second readings of P7.1 to P7.3 for trees as lists, without maps: as long as there is a KExpand, the first one is replaced in the list. The layer is compared with them.

// node is a node of a tree; those below it come behind it, with a greater depth.
type node struct {
	kind      int
	text      string
	at, depth int
}

// flat returns the nodes of a tree in the order of their numbers.
func flat(t api.Tree, depth int) []node {
	out := []node{{t.Kind, t.Text, t.At, depth}}
	for _, k := range t.Kids {
		out = append(out, flat(k, depth+1)...)
	}
	return out
}

// end returns the index behind the node i and all below it.
func end(l []node, i int) int {
	for k := i + 1; k < len(l); k++ {
		if l[k].depth <= l[i].depth {
			return k
		}
	}
	return len(l)
}

// defsOf returns the different Defs of the binds with a name.
func defsOf(l []api.Bind, name string) []string {
	var out []string
	for _, b := range l {
		if b.Name == name && !slices.Contains(out, b.Def) {
			out = append(out, b.Def)
		}
	}
	return out
}

func hasLet(l []node, text string) bool {
	return slices.ContainsFunc(l, func(n node) bool { return n.kind == api.KLet && n.text == text })
}

// paramsOf returns the parameters of a tree that is a macro, and true.
func paramsOf(t api.Tree) ([]string, bool) {
	if t.Kind != api.KMacro || len(t.Kids) != 2 || t.Kids[0].Kind != api.KArgs {
		return nil, false
	}
	var out []string
	for _, k := range t.Kids[0].Kids {
		if k.Kind != api.KName {
			return nil, false
		}
		out = append(out, k.Text)
	}
	return out, true
}

// prepareOf returns the parameters and the Body of a macro.
func prepareOf(t api.Tree, b []api.Bind) ([]string, []node) {
	params, ok := paramsOf(t)
	if !ok {
		return nil, []node{{kind: api.KUnit}}
	}
	body := flat(t.Kids[1], 0)
	out := slices.Clone(body)
	for i, n := range body {
		isName, isAssign := n.kind == api.KName, n.kind == api.KAssign
		inBody := hasLet(body, n.text)
		switch {
		case isName && (inBody || slices.Contains(params, n.text)), isAssign && inBody:
		case isAssign:
			out[i].text = "::" + n.text
		case isName || n.kind == api.KCall || n.kind == api.KNew || n.kind == api.KExpand:
			if defs := defsOf(b, n.text); len(defs) == 1 {
				out[i].text = defs[0]
			} else {
				out[i].text = "::" + n.text
			}
		}
	}
	return params, out
}

// argsOf returns the nodes of each argument of the KExpand that a list begins with.
func argsOf(l []node) [][]node {
	var out [][]node
	for i := 1; i < end(l, 0); i = end(l, i) {
		out = append(out, l[i:end(l, i)])
	}
	return out
}

// expansionOf returns what the KExpand that a list begins with becomes by the expansion with a number.
func expansionOf(m api.Macro, l []node, number int) []node {
	var out []node
	body, args := flat(m.Body, l[0].depth), argsOf(l)
	for i := 0; i < len(body); {
		n, isVariable := body[i], hasLet(body, body[i].text)
		if p := slices.Index(m.Params, n.text); n.kind == api.KName && p >= 0 && !isVariable {
			for _, a := range args[p] {
				a.depth += n.depth - l[0].depth - 1
				out = append(out, a)
			}
			i = end(body, i)
			continue
		}
		if isVariable && (n.kind == api.KLet || n.kind == api.KAssign || n.kind == api.KName) {
			n.text += "#" + strconv.Itoa(number)
		}
		n.at = l[0].at
		out = append(out, n)
		i++
	}
	return out
}

// found returns the Def of the macro of a KExpand, or a code.
func found(text string, b []api.Bind) (string, int) {
	two := -1
	for i := 0; i+1 < len(text) && two < 0; i++ {
		if text[i] == ':' && text[i+1] == ':' {
			two = i
		}
	}
	defs := defsOf(b, text)
	switch {
	case two == 0, two < 0 && len(defs) == 0:
		return "", api.CodeUnresolved
	case two > 0:
		return text, 0
	case len(defs) > 1:
		return "", api.CodeAmbiguous
	}
	return defs[0], 0
}

// expandOf returns what Expand and Needs return.
func expandOf(t api.Tree, b []api.Bind, l []api.Macro) ([]node, []api.Diag, []string) {
	now, made := flat(t, 0), 0
	var diags []api.Diag
	var lacking []string
	for {
		i := slices.IndexFunc(now, func(n node) bool { return n.kind == api.KExpand })
		if i < 0 {
			slices.Sort(lacking)
			return now, diags, slices.Compact(lacking)
		}
		call, behind := now[i:end(now, i)], now[end(now, i):]
		def, code := found(call[0].text, b)
		m := slices.IndexFunc(l, func(m api.Macro) bool { return m.Def == def })
		var next []node
		switch {
		case code != 0:
		case m < 0:
			lacking = append(lacking, def)
			code = api.CodeKind
		case len(argsOf(call)) != len(l[m].Params) || made == api.MaxExpand:
			code = api.CodeMacro
		default:
			next = expansionOf(l[m], call, made+1)
			if len(now)-len(call)+len(next) > api.MaxNodes {
				code = api.CodeMacro
			}
		}
		if code == 0 {
			made++
		} else {
			diags = append(diags, api.Diag{Code: code, Node: call[0].at, Text: call[0].text})
			next = []node{{api.KBad, call[0].text, call[0].at, call[0].depth}}
		}
		now = slices.Concat(now[:i], next, behind)
	}
}

// checkExpand compares Expand and Needs with the second reading, and returns the number of diagnostics.
func checkExpand(t *testing.T, in api.Tree, b []api.Bind, l []api.Macro) int {
	t.Helper()
	tree, diags, lacking := expandOf(in, b, l)
	got := macros.Expand(in, b, l)
	if !slices.Equal(flat(got.Tree, 0), tree) || !slices.Equal(got.Diags, diags) {
		var texts []string
		for _, m := range l {
			texts = append(texts, showMacro(m))
		}
		t.Fatalf("%s with %q and %q: %s, and %s", show(in), b, texts, show(got.Tree), showDiags(got.Diags))
	}
	if needs := macros.Needs(in, b, l); !slices.Equal(needs, lacking) {
		t.Fatalf("%s with %q needs %q", show(in), b, needs)
	}
	return len(diags)
}

func checkPrepare(t *testing.T, in api.Tree, b []api.Bind) api.Macro {
	t.Helper()
	params, body := prepareOf(in, b)
	got := macros.Prepare("p::m", in, b)
	if got.Def != "p::m" || !slices.Equal(got.Params, params) || !slices.Equal(flat(got.Body, 0), body) {
		t.Fatalf("%s with %q: %s", show(in), b, showMacro(got))
	}
	return got
}

// small returns all trees with at most n nodes that have one of these Kinds and Texts.
func small(n int, roots []api.Tree) []api.Tree {
	var out []api.Tree
	for size := 1; size <= n; size++ {
		out = append(out, sized(size, roots)...)
	}
	return out
}

// sized returns the trees with n nodes.
func sized(n int, roots []api.Tree) []api.Tree {
	var out []api.Tree
	for _, kids := range forests(n-1, roots) {
		for _, r := range roots {
			out = append(out, tree(r.Kind, r.Text, len(kids), kids...))
		}
	}
	return out
}

// forests returns the lists of trees with n nodes.
func forests(n int, roots []api.Tree) [][]api.Tree {
	if n == 0 {
		return [][]api.Tree{nil}
	}
	var out [][]api.Tree
	for size := 1; size <= n; size++ {
		for _, first := range sized(size, roots) {
			for _, rest := range forests(n-size, roots) {
				out = append(out, append([]api.Tree{first}, rest...))
			}
		}
	}
	return out
}

func TestAllSmallBodies(t *testing.T) {
	roots := []api.Tree{call("p::m", 0), name("x"), tree(api.KLet, "x", 0), tree(api.KAssign, "x", 0), name("v")}
	bodies := small(3, roots)
	var trees []api.Tree
	for _, in := range bodies {
		if in.Kind == api.KExpand && len(flat(in, 0)) <= 2+len(in.Kids)/2 {
			trees = append(trees, in)
		}
	}
	if len(bodies) != 280 || len(trees) != 31 {
		t.Fatalf("there are %d bodies and %d trees", len(bodies), len(trees))
	}
	for _, body := range bodies {
		for _, params := range [][]string{nil, {"x"}, {"v"}, {"x", "v"}, {"x", "x"}} {
			l := []api.Macro{{Def: "p::m", Params: params, Body: body}}
			for _, in := range trees {
				checkExpand(t, in, nil, l)
			}
		}
	}
}

func TestAllSmallMacros(t *testing.T) {
	var roots []api.Tree
	for _, kind := range []int{api.KName, api.KCall, api.KLet, api.KAssign} {
		roots = append(roots, tree(kind, "x", 0), tree(kind, "y", 0))
	}
	lists := [][]api.Bind{nil, binds("x=p::x"), binds("x=p::x,x=q::x,y=y")}
	n := 0
	for _, body := range small(3, roots) {
		for i, params := range [][]string{nil, {"x"}, {"x", "y"}, {"y", "y"}} {
			in := tree(api.KMacro, "m", 0, tree(api.KArgs, "", 0), body)
			for _, p := range params {
				in.Kids[0].Kids = append(in.Kids[0].Kids, name(p))
			}
			checkPrepare(t, in, lists[(n+i)%3])
			n++
		}
	}
	if n != 4*(8+64+2*512) {
		t.Errorf("there are %d macros", n)
	}
}

func (d *dice) text() string {
	return d.pick("x", "x", "y", "y", "v", "v", "m", "m", "n", "o", "p::m", "p::n", "p::o", "q::m", "::m", "::", "", "a:b", "p::", "m#1", "v#1", "v#2")
}

func (d *dice) kind() int {
	kinds := []int{api.KName, api.KName, api.KName, api.KExpand, api.KExpand, api.KExpand, api.KLet, api.KAssign, api.KCall, api.KNew, api.KBlock, api.KBinary, api.KInt, api.KMacro, api.KBad, 0}
	return kinds[d.roll(len(kinds))]
}

// tree returns a tree with at most this depth.
func (d *dice) tree(depth int) api.Tree {
	t := tree(d.kind(), d.text(), d.roll(100)-10)
	if depth > 1 {
		for range d.roll(4) {
			t.Kids = append(t.Kids, d.tree(1+d.roll(depth-1)))
		}
	}
	return t
}

func (d *dice) binds() []api.Bind {
	var out []api.Bind
	for range d.roll(12) {
		out = append(out, api.Bind{Name: d.text(), Def: d.pick("p::m", "p::n", "p::o", "q::m", "x", "", "::m")})
	}
	return out
}

func (d *dice) macro() api.Macro {
	m := api.Macro{Def: d.pick("p::m", "p::n", "p::o", "q::m", "", "x"), Body: d.tree(1 + d.roll(4))}
	for range d.roll(3) {
		m.Params = append(m.Params, d.pick("x", "y", "v", "m"))
	}
	return m
}

// macroTree returns a tree that is mostly a KMacro.
func (d *dice) macroTree() api.Tree {
	args := tree(api.KArgs, "", d.roll(9))
	for range d.roll(4) {
		args.Kids = append(args.Kids, tree(api.KName, d.pick("x", "y", "v", "m"), d.roll(9)))
	}
	t := tree(api.KMacro, "m", d.roll(9), args, d.tree(1+d.roll(5)))
	switch d.roll(20) {
	case 0:
		t.Kind = d.kind()
	case 1:
		t.Kids[0] = d.tree(2)
	case 2:
		t.Kids = append(t.Kids, d.tree(2))
	case 3:
		t.Kids[0].Kids = append(t.Kids[0].Kids, d.tree(1))
	}
	return t
}

func TestGeneratedTrees(t *testing.T) {
	d := &dice{7}
	wrong, fine := 0, 0
	for range 12000 {
		b := d.binds()
		var l []api.Macro
		for range d.roll(7) {
			l = append(l, d.macro())
		}
		if n := checkExpand(t, d.tree(1+d.roll(6)), b, l); n > 0 {
			wrong++
		} else {
			fine++
		}
	}
	if wrong < 3000 || fine < 3000 {
		t.Errorf("%d trees have diagnostics, %d have none", wrong, fine)
	}
}

func TestGeneratedMacros(t *testing.T) {
	d := &dice{71}
	for range 20000 {
		checkPrepare(t, d.macroTree(), d.binds())
	}
}

// Macros that are prepared for one module, and expanded in another one.
func TestGeneratedModules(t *testing.T) {
	d := &dice{72}
	for range 6000 {
		b := append(d.binds(), binds("m=p::m,n=p::n,o=p::o")...)
		var l []api.Macro
		for _, def := range []string{"p::m", "p::n", "p::o", "q::m"} {
			m := checkPrepare(t, d.macroTree(), b)
			m.Def = def
			l = append(l, m)
		}
		checkExpand(t, d.tree(1+d.roll(6)), d.binds(), l)
	}
}
