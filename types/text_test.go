package types_test

import (
	"slices"
	"strings"
	"testing"

	"recompile/api"
	"recompile/types"
)

// different are types no two of which are equal, though many have the same text.
func different() []api.Type {
	return []api.Type{
		{}, ty("a"), ty("b"), ty("A"), ty("a "), ty("ab"), ty("\x00"), ty("\xff"), ty("é"),
		ty("", ty("")), ty("", ty(""), ty("")), ty(","), ty("<"), ty("<>"), ty("<,>"),
		ty("a", ty("b")), ty("a<b>"), ty("b", ty("a")), ty("a", ty("")), ty("a<>"), ty("a", ty("b>")), ty("a", ty("b"), ty("c")), ty("a", ty("b,c")), ty("a", ty("c"), ty("b")), ty("a<b,c>"), ty("a", ty("b"), ty("b")),
		of("a<b<c>,d>"), of("a<b<c,d>>"), of("a<b,c,d>"), of("a<b,c<d>>"), of("a<b<c<d>>>"), of("a<b<d>,c>"), of("a<b<c>,e>"), of("a<b<e>,d>"), of("a<e<c>,d>"), of("e<b<c>,d>"),
		deep(100, ty("a")), deep(100, ty("b")), deep(100, ty("a", ty("b"))), deep(101, ty("a")), deep(100, ty("a", ty("b"), ty("b"))),
		ty("?0"), ty("?1"), ty("$T"), ty("error"), ty("error", ty("a")), ty("P", append(repeat(ty("x"), 50), ty("a"))...), ty("P", append(repeat(ty("x"), 50), ty("b"))...), ty("P", repeat(ty("x"), 50)...),
	}
}

func TestSame(t *testing.T) {
	l, again := different(), different()
	for i, a := range l {
		for j, b := range again {
			if got := types.Same(a, b); got != (i == j) {
				t.Errorf("Same(%s, %s) = %t", show(a), show(b), got)
			}
		}
	}
	if !types.Same(api.Type{Name: "a", Args: []api.Type{}}, ty("a")) {
		t.Error("an empty list and none are different")
	}
}

func TestSize(t *testing.T) {
	for text, want := range map[string]int{"_": 1, "int": 1, "L<int>": 2, "L<_>": 2, "P<a,b>": 3, "P<P<a,b>,c>": 5, "P<a,P<b,c>>": 5, "A<B<C<D<E>>>>": 5, "P<Q<a,b,c>,Q<d>,e>": 8} {
		if got := types.Size(of(text)); got != want {
			t.Errorf("Size of %s = %d, expected %d", text, got, want)
		}
	}
	for _, x := range different() {
		if got, want := types.Size(x), len(nodes(x)); got != want {
			t.Errorf("Size of %s = %d, expected %d", show(x), got, want)
		}
	}
	if got := types.Size(ty("P", repeat(ty("x", ty("y")), 1000)...)); got != 2001 {
		t.Errorf("Size of a wide type = %d", got)
	}
}

func TestPrint(t *testing.T) {
	for _, c := range []struct {
		t    api.Type
		want string
	}{
		{api.Type{}, ""}, {ty("int"), "int"}, {ty("a::b"), "a::b"}, {ty("?12"), "?12"}, {ty("$T"), "$T"}, {ty(" a\n"), " a\n"}, {ty("\xff\x00"), "\xff\x00"},
		{ty("L", ty("int")), "L<int>"}, {ty("", ty("")), "<>"}, {ty("", ty(""), ty("")), "<,>"}, {ty("a", ty("b"), ty("c"), ty("d")), "a<b,c,d>"},
		{ty("a", ty("b", ty("c")), ty("d", ty("e"), ty("f"))), "a<b<c>,d<e,f>>"}, {ty("<", ty(">", ty(","))), "<<><,>>"}, {ty("a,b"), "a,b"},
		{api.Type{Name: "a", Args: []api.Type{}}, "a"},
	} {
		if got := types.Print(c.t); got != c.want {
			t.Errorf("Print(%s) = %q, expected %q", show(c.t), got, c.want)
		}
	}
}

func TestParse(t *testing.T) {
	for s, want := range map[string]api.Type{
		"int": ty("int"), "p::L<int>": ty("p::L", ty("int")), "a<b,c>": ty("a", ty("b"), ty("c")), "a<b<c>>": ty("a", ty("b", ty("c"))), "a<b<c>,d<e,f>>": ty("a", ty("b", ty("c")), ty("d", ty("e"), ty("f"))),
		"a<b,c<d>>": ty("a", ty("b"), ty("c", ty("d"))), "?0": ty("?0"), "?0<$T>": ty("?0", ty("$T")), " ": ty(" "), " a < b , c > ": {}, " a < b , c >": ty(" a ", ty(" b "), ty(" c ")),
		"\x00": ty("\x00"), "\xff<é>": ty("\xff", ty("é")), "é€<\xc3,\xa9>": ty("é€", ty("\xc3"), ty("\xa9")), "::": ty("::"), "(a[b;c]=\"'\\": ty("(a[b;c]=\"'\\"),
		"a-long-name-with-many-bytes<another-long-name>": ty("a-long-name-with-many-bytes", ty("another-long-name")),
	} {
		got, ok := types.Parse(s)
		if !equal(got, want) || ok != (want.Name != "") {
			t.Errorf("Parse(%q) = %s, %t, expected %s", s, show(got), ok, show(want))
		}
	}
}

func TestParseRefuses(t *testing.T) {
	for _, s := range []string{
		"", "<", ">", ",", "<>", "<a>", "a<", "a>", "a,", ",a", "a,b", "a<>", "a<,>", "a<b", "a<b,", "a<b,>", "a<,b>", "a<b,,c>", "a<b>>", "a<<b>>", "a<<b>", "a<b><", "a<b>,", "a<b>c", "a<b>c>", "a<b> ", "a<b><c>", "a<b>,c",
		"a<b,c", "a<b<c>", "a<b<>>", "a<b<c>d>", "a<b<c>d,e>", "a<b<c><d>>", "a<b<c,>>", "a<b<,c>>", "a<b,<c>>", ">a<", "a<b,c>>", "a<b<c>>>", "a<b>,c>", "a>b<", "a<b>\x00", "a<b c<d>", "é<", "\xff>",
	} {
		if got, ok := types.Parse(s); ok || !equal(got, api.Type{}) || got.Args != nil {
			t.Errorf("Parse(%q) = %s, %t", s, show(got), ok)
		}
	}
}

// A text of n nodes in each of some forms.
func texts(n int) map[string]string {
	return map[string]string{
		"wide": "P<" + strings.Repeat("a,", n-2) + "a>", "deep": strings.Repeat("L<", n-1) + "a" + strings.Repeat(">", n-1),
		"both": strings.Repeat("P<a,", n/2-1) + strings.Repeat("L<", n%2+1) + "a" + strings.Repeat(">", n/2+n%2), "left": strings.Repeat("P<", n/2-1) + "L<a" + strings.Repeat(">,b", n/2-1) + ">",
	}
}

func TestParseOfManyNodes(t *testing.T) {
	for name, s := range texts(api.MaxNodes) {
		x, ok := types.Parse(s)
		if !ok || len(nodes(x)) != api.MaxNodes || types.Print(x) != s {
			t.Errorf("%s: a text of MaxNodes nodes was not read", name)
		}
		if x, ok := types.Parse("L<" + s + ">"); ok || !equal(x, api.Type{}) {
			t.Errorf("%s: a text of one node more was read", name)
		}
		if _, ok := types.Parse(s + ">"); ok {
			t.Errorf("%s: a text of MaxNodes nodes with something behind it was read", name)
		}
		if _, ok := types.Parse(s[:len(s)-1]); ok {
			t.Errorf("%s: a text of MaxNodes nodes without its end was read", name)
		}
	}
	for name, s := range texts(api.MaxNodes + 2) {
		if x, ok := types.Parse(s); ok || !equal(x, api.Type{}) {
			t.Errorf("%s: a text of two nodes more was read", name)
		}
	}
	for _, s := range []string{strings.Repeat("a<", 5000000), strings.Repeat("a<a,", 5000000), "a<" + strings.Repeat("a,", 5000000), strings.Repeat("<", 5000000), strings.Repeat(">", 5000000)} {
		if _, ok := types.Parse(s); ok {
			t.Errorf("a text of %d bytes that begins with %q was read", len(s), s[:9])
		}
	}
	long := strings.Repeat("a", 5000000)
	if x, ok := types.Parse(long + "<" + long + ">"); !ok || !equal(x, ty(long, ty(long))) {
		t.Error("a text with long Names was not read")
	}
}

// Every short text is either refused, or that of the type that was read; those that are read are known.
func TestParseOfEveryText(t *testing.T) {
	t.Parallel()
	legal := map[string]bool{}
	for _, x := range allTypes(9) {
		legal[types.Print(x)] = true
	}
	texts := []string{""}
	read := 0
	for len(texts) > 0 {
		s := texts[0]
		texts = texts[1:]
		x, ok := types.Parse(s)
		if ok != legal[s] || ok && (types.Print(x) != s || slices.Contains(names(x), "")) || !ok && !equal(x, api.Type{}) {
			t.Fatalf("Parse(%q) = %s, %t", s, show(x), ok)
		}
		if ok {
			read++
		}
		if len(s) < 9 {
			texts = append(texts, s+"a", s+"<", s+">", s+",")
		}
	}
	if read != len(legal) {
		t.Errorf("%d texts were read, expected %d", read, len(legal))
	}
}

// allTypes returns all types whose texts have at most some bytes, with Names of one letter only.
func allTypes(bytes int) []api.Type {
	var out []api.Type
	for name := 1; name <= bytes; name++ {
		x := ty(strings.Repeat("a", name))
		out = append(out, x)
		for _, l := range allLists(bytes - name - 1) {
			out = append(out, ty(x.Name, l...))
		}
	}
	return out
}

// allLists returns all lists of types, each of them with a mark behind it, whose texts have at most some bytes.
func allLists(bytes int) [][]api.Type {
	var out [][]api.Type
	for _, first := range allTypes(bytes - 1) {
		out = append(out, []api.Type{first})
		for _, rest := range allLists(bytes - 1 - len(types.Print(first))) {
			out = append(out, append([]api.Type{first}, rest...))
		}
	}
	return out
}

func TestParseOfPrint(t *testing.T) {
	d := &dice{7}
	for range 20000 {
		x := d.typeOf(1+d.roll(7), "a", "int", "p::R", "?0", "?17", "$T", "é", "\xff", " ", "\x00", "::", "error")
		got, ok := types.Parse(types.Print(x))
		if !ok || !equal(got, x) {
			t.Fatalf("Parse of Print of %s: %s, %t", show(x), show(got), ok)
		}
	}
}

// A text with a byte more, a byte less or another byte is read only if it is the text of a type.
func TestParseOfChangedTexts(t *testing.T) {
	d := &dice{11}
	read := 0
	for range 20000 {
		b := []byte(types.Print(d.typeOf(1+d.roll(6), "a", "b", "int")))
		for range 1 + d.roll(2) {
			switch i := d.roll(len(b) + 1); d.roll(3) {
			case 0:
				b = slices.Insert(b, i, "<>,a"[d.roll(4)])
			case 1:
				b = append(b[:i:i], b[min(i+1, len(b)):]...)
			default:
				b = append(append(b[:i:i], "<>,a"[d.roll(4)]), b[min(i+1, len(b)):]...)
			}
		}
		s := string(b)
		x, ok := types.Parse(s)
		if ok != isText(s) || ok && types.Print(x) != s {
			t.Fatalf("Parse(%q) = %s, %t", s, show(x), ok)
		}
		if ok {
			read++
		}
	}
	if read < 2000 || read > 18000 {
		t.Errorf("%d texts were read", read)
	}
}

// isText says in another way whether a text is that of a type with plain Names: types without Args in brackets are taken away, as long as there are any.
func isText(s string) bool {
	isName := func(s string) bool { return s != "" && !strings.ContainsAny(s, "<>,") }
	for {
		end := strings.IndexByte(s, '>')
		if end < 0 {
			return isName(s)
		}
		begin := strings.LastIndexByte(s[:end], '<')
		if begin < 0 {
			return false
		}
		for _, name := range strings.Split(s[begin+1:end], ",") {
			if !isName(name) {
				return false
			}
		}
		before, after := strings.LastIndexAny(s[:begin], "<>,")+1, s[end+1:]
		if !isName(s[before:begin]) || after != "" && !strings.ContainsRune(">,", rune(after[0])) {
			return false
		}
		s = s[:begin] + after
	}
}
