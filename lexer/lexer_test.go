package lexer_test

import (
	"slices"
	"strings"
	"testing"

	"recompile/api"
	"recompile/lexer"
)

func token(kind int, text string, at int) api.Token {
	return api.Token{Kind: kind, Text: text, At: at}
}

func name(text string, at int) api.Token   { return token(api.TokName, text, at) }
func word(text string, at int) api.Token   { return token(api.TokWord, text, at) }
func number(text string, at int) api.Token { return token(api.TokInt, text, at) }
func mark(text string, at int) api.Token   { return token(api.TokMark, text, at) }
func bad(text string, at int) api.Token    { return token(api.TokBad, text, at) }
func end(at int) api.Token                 { return token(api.TokEnd, "", at) }

func list(l ...api.Token) []api.Token { return l }

func words() []string {
	return []string{
		"use", "pub", "const", "fn", "type", "trait", "impl", "for", "macro", "let", "while",
		"if", "else", "print", "new", "true", "false", "int", "bool", "unit", "Self",
	}
}

func marks() []string {
	return []string{
		"&&", "||", "==", "->", "(", ")", "{", "}", "<", ">", ",", ";", ":", ".", "=", "+", "-", "*", "/", "%", "!",
	}
}

// example is a test of one text.
type example struct {
	text string
	want []api.Token
}

func check(t *testing.T, l []example) {
	t.Helper()
	for _, c := range l {
		if got := lexer.Tokens(c.text); !slices.Equal(got, c.want) {
			t.Errorf("Tokens(%q) = %v, expected %v", c.text, got, c.want)
		}
	}
}

func TestOrdinaryTexts(t *testing.T) {
	check(t, []example{
		{"a1<=2", list(name("a1", 0), mark("<", 2), mark("=", 3), number("2", 4), end(5))},
		{"fn main() -> int { 7 }", list(word("fn", 0), name("main", 3), mark("(", 7), mark(")", 8), mark("->", 10),
			word("int", 13), mark("{", 17), number("7", 19), mark("}", 21), end(22))},
		{"impl<T> T for T{}", list(word("impl", 0), mark("<", 4), name("T", 5), mark(">", 6), name("T", 8),
			word("for", 10), name("T", 14), mark("{", 15), mark("}", 16), end(17))},
		{"let x=a.b%10; // ten\n!x&&y", list(word("let", 0), name("x", 4), mark("=", 5), name("a", 6), mark(".", 7), name("b", 8),
			mark("%", 9), number("10", 10), mark(";", 12), mark("!", 21), name("x", 22), mark("&&", 23), name("y", 25), end(26))},
		{"new a::b", list(word("new", 0), name("a", 4), mark(":", 5), mark(":", 6), name("b", 7), end(8))},
	})
}

func TestTextsWithoutTokens(t *testing.T) {
	for _, text := range []string{"", " ", "\t", "\n", "\r", " \t\n\r", "//", "///", "// a", "// a\n", "//\n//", "// // a\r\n\t// b"} {
		if got := lexer.Tokens(text); !slices.Equal(got, list(end(len(text)))) {
			t.Errorf("Tokens(%q) = %v", text, got)
		}
	}
}

func TestComments(t *testing.T) {
	check(t, []example{
		{"//a\nb", list(name("b", 4), end(5))},
		{"a//b", list(name("a", 0), end(4))},
		{"a//b\nc", list(name("a", 0), name("c", 5), end(6))},
		{"a//b//c\nd", list(name("a", 0), name("d", 8), end(9))},
		{"a//\nb//\nc", list(name("a", 0), name("b", 4), name("c", 8), end(9))},
		{"//a\rb", list(end(5))},
		{"//\xff\x00\nb", list(name("b", 5), end(6))},
		{"///a\nb", list(name("b", 5), end(6))},
		{"/ /a", list(mark("/", 0), mark("/", 2), name("a", 3), end(4))},
		{"/\n/a", list(mark("/", 0), mark("/", 2), name("a", 3), end(4))},
		{"=//a", list(mark("=", 0), end(4))},
		{"&//&", list(bad("&", 0), end(4))},
		{"/*a*/", list(mark("/", 0), mark("*", 1), name("a", 2), mark("*", 3), mark("/", 4), end(5))},
	})
}

func TestSingleSlash(t *testing.T) {
	check(t, []example{
		{"/", list(mark("/", 0), end(1))},
		{"/a", list(mark("/", 0), name("a", 1), end(2))},
		{"a/", list(name("a", 0), mark("/", 1), end(2))},
		{"a/b", list(name("a", 0), mark("/", 1), name("b", 2), end(3))},
		{" / ", list(mark("/", 1), end(3))},
	})
}

func TestReservedWords(t *testing.T) {
	for _, w := range words() {
		n := len(w)
		check(t, []example{
			{w, list(word(w, 0), end(n))},
			{w + "x", list(name(w+"x", 0), end(n+1))},
			{w + "_", list(name(w+"_", 0), end(n+1))},
			{w + "0", list(name(w+"0", 0), end(n+1))},
			{"x" + w, list(name("x"+w, 0), end(n+1))},
			{"_" + w, list(name("_"+w, 0), end(n+1))},
			{"1" + w, list(bad("1"+w, 0), end(n+1))},
			{w + " " + w, list(word(w, 0), word(w, n+1), end(2*n+1))},
			{w + w, list(name(w+w, 0), end(2*n))},
			{w + "(", list(word(w, 0), mark("(", n), end(n+1))},
			{w + "\xff", list(word(w, 0), bad("\xff", n), end(n+1))},
			{w[1:] + ".", list(name(w[1:], 0), mark(".", n-1), end(n))},
			{swap(w), list(name(swap(w), 0), end(n))},
		})
	}
}

// swap returns a word whose first letter is great if it was small, and small if it was great.
func swap(w string) string { return string(w[0]^32) + w[1:] }

func TestReserved(t *testing.T) {
	for _, w := range words() {
		if !lexer.Reserved(w) {
			t.Errorf("%q is not reserved", w)
		}
		for _, s := range []string{w + "x", "x" + w, w + " ", " " + w, w + "\n", w + "\x00", w[1:], w[:len(w)-1], swap(w), strings.ToUpper(w), w + w} {
			if lexer.Reserved(s) {
				t.Errorf("%q is reserved", s)
			}
		}
	}
	for _, s := range []string{"", " ", "main", "error", "self", "return", "break", "struct", "import", "module", "_", "0", "+", "&&", "\xff", strings.Repeat("use", 10000)} {
		if lexer.Reserved(s) {
			t.Errorf("%q is reserved", s)
		}
	}
}

func TestMarks(t *testing.T) {
	for _, m := range marks() {
		n := len(m)
		check(t, []example{
			{m, list(mark(m, 0), end(n))},
			{m + "a", list(mark(m, 0), name("a", n), end(n+1))},
			{"a" + m, list(name("a", 0), mark(m, 1), end(n+1))},
			{"1" + m + "2", list(number("1", 0), mark(m, 1), number("2", n+1), end(n+2))},
			{m + " " + m, list(mark(m, 0), mark(m, n+1), end(2*n+1))},
		})
	}
}

func TestBytesThatAreNoMarkTogether(t *testing.T) {
	check(t, []example{
		{"<=", list(mark("<", 0), mark("=", 1), end(2))},
		{">=", list(mark(">", 0), mark("=", 1), end(2))},
		{"!=", list(mark("!", 0), mark("=", 1), end(2))},
		{"=>", list(mark("=", 0), mark(">", 1), end(2))},
		{">-", list(mark(">", 0), mark("-", 1), end(2))},
		{"--", list(mark("-", 0), mark("-", 1), end(2))},
		{"++", list(mark("+", 0), mark("+", 1), end(2))},
		{"::", list(mark(":", 0), mark(":", 1), end(2))},
		{"<<", list(mark("<", 0), mark("<", 1), end(2))},
		{">>", list(mark(">", 0), mark(">", 1), end(2))},
		{"&|", list(bad("&", 0), bad("|", 1), end(2))},
		{"&", list(bad("&", 0), end(1))},
		{"|", list(bad("|", 0), end(1))},
		{"& &", list(bad("&", 0), bad("&", 2), end(3))},
		{"= =", list(mark("=", 0), mark("=", 2), end(3))},
		{"&&&", list(mark("&&", 0), bad("&", 2), end(3))},
		{"|||", list(mark("||", 0), bad("|", 2), end(3))},
		{"===", list(mark("==", 0), mark("=", 2), end(3))},
		{"====", list(mark("==", 0), mark("==", 2), end(4))},
		{"-->", list(mark("-", 0), mark("->", 1), end(3))},
		{"->>", list(mark("->", 0), mark(">", 2), end(3))},
		{"!==", list(mark("!", 0), mark("==", 1), end(3))},
	})
}

func TestRunsOfDigits(t *testing.T) {
	for n := 1; n <= 2*api.MaxDigits+2; n++ {
		for _, digit := range []string{"0", "1", "9"} {
			s := strings.Repeat(digit, n)
			first := number(s, 0)
			if n > api.MaxDigits {
				first = bad(s, 0)
			}
			check(t, []example{
				{s, list(first, end(n))},
				{s + " 1", list(first, number("1", n+1), end(n+2))},
				{s + ".", list(first, mark(".", n), end(n+1))},
				{s + "a", list(bad(s+"a", 0), end(n+1))},
				{s + "_", list(bad(s+"_", 0), end(n+1))},
				{"a" + s, list(name("a"+s, 0), end(n+1))},
			})
		}
	}
	check(t, []example{
		{"012345678901234567", list(number("012345678901234567", 0), end(18))},
		{"0123456789012345678", list(bad("0123456789012345678", 0), end(19))},
	})
}

func TestRunsOfLettersAndDigits(t *testing.T) {
	long := strings.Repeat("aZ_09", api.MaxText/5)
	check(t, []example{
		{"0a", list(bad("0a", 0), end(2))},
		{"1_000", list(bad("1_000", 0), end(5))},
		{"0x10", list(bad("0x10", 0), end(4))},
		{"1a2b 3", list(bad("1a2b", 0), number("3", 5), end(6))},
		{"1use", list(bad("1use", 0), end(4))},
		{"1\xff", list(number("1", 0), bad("\xff", 1), end(2))},
		{"_", list(name("_", 0), end(1))},
		{"_1", list(name("_1", 0), end(2))},
		{"__a", list(name("__a", 0), end(3))},
		{"AZaz09_", list(name("AZaz09_", 0), end(7))},
		{"a-b", list(name("a", 0), mark("-", 1), name("b", 2), end(3))},
		{"é", list(bad("\xc3", 0), bad("\xa9", 1), end(2))},
		{"aéb", list(name("a", 0), bad("\xc3", 1), bad("\xa9", 2), name("b", 3), end(4))},
		{long, list(name(long, 0), end(api.MaxText))},
		{"1" + long[1:], list(bad("1"+long[1:], 0), end(api.MaxText))},
	})
}

func TestLengths(t *testing.T) {
	for _, s := range []string{"x", "1", "(", "&", " ", "/", "\n", "\xff", "//", "a ", "==", "1 "} {
		most := strings.Repeat(s, api.MaxText/len(s))
		if got := lexer.Tokens(most); len(got) == 0 || got[len(got)-1] != end(api.MaxText) {
			t.Errorf("%q up to MaxText bytes: %d tokens", s, len(got))
		}
		for _, over := range []string{most + s, most + " ", " " + most, most + "\x00", most + most} {
			if got := lexer.Tokens(over); len(got) != 0 {
				t.Errorf("%q with %d bytes: %d tokens", s, len(over), len(got))
			}
		}
	}
	if got := lexer.Tokens(strings.Repeat("(", api.MaxText)); len(got) != api.MaxText+1 {
		t.Errorf("MaxText marks: %d tokens", len(got))
	}
}

func TestJoin(t *testing.T) {
	for _, c := range []struct {
		l    []api.Token
		want string
	}{
		{nil, ""},
		{list(), ""},
		{list(end(0)), ""},
		{list(name("a", 0)), "a\n"},
		{list(name("a", 0), end(1)), "a\n"},
		{list(name("a1", 0), mark("<", 2), mark("=", 3), number("2", 4), end(5)), "a1\n<\n=\n2\n"},
		{list(end(9), word("use", 7), end(8), bad("&", 7), end(0), end(0)), "use\n&\n"},
		{list(token(api.TokEnd, "text of an end", 0), name("a", 0)), "a\n"},
		{list(name("", 0), bad("", 0), token(-1, "", 0)), "\n\n\n"},
		{list(name("a b", 0), word("no word", 0), number("x\n", 0), mark("\n\n", 0), bad("//", 0)), "a b\nno word\nx\n\n\n\n\n//\n"},
		{list(token(-1, "a", -1), token(6, "\x00", 1<<40), token(1<<40, "\xff", 0), token(-1<<63, "é", 0)), "a\n\x00\n\xff\né\n"},
		{list(name("b", 5), name("a", 1), name("b", 5)), "b\na\nb\n"},
	} {
		if got := lexer.Join(c.l); got != c.want {
			t.Errorf("Join(%v) = %q, expected %q", c.l, got, c.want)
		}
	}
}

func TestJoinOfManyTokens(t *testing.T) {
	part := strings.Repeat("y", 1000)
	l := slices.Repeat(list(name(part, 0), end(0), bad("", 0)), 10000)
	if got := lexer.Join(l); got != strings.Repeat(part+"\n\n", 10000) {
		t.Errorf("Join of %d tokens has %d bytes", len(l), len(got))
	}
}
