package lexer_test

import (
	"regexp"
	"slices"
	"strings"
	"testing"

	"recompile/api"
	"recompile/lexer"
)

// pieces says in another way what the beginning of a text is: a gap, a number, another run, or a mark.
var pieces = regexp.MustCompile(`\A(?:([ \t\n\r]+|//[^\n]*)|([0-9]{1,18}(?:[^A-Za-z0-9_]|\z))|([A-Za-z0-9_]+)|(&&|\|\||==|->|[(){}<>,;:.=+\-*/%!]))`)

// expected returns the tokens of a text by pieces.
func expected(text string) []api.Token {
	var out []api.Token
	at := 0
	for at < len(text) {
		rest := text[at:]
		m := pieces.FindStringSubmatchIndex(rest)
		switch {
		case m == nil:
			out = append(out, bad(rest[:1], at))
			at++
		case m[3] > 0:
			at += m[3]
		case m[5] > 0:
			digits := rest[:len(rest)-len(strings.TrimLeft(rest, "0123456789"))]
			out = append(out, number(digits, at))
			at += len(digits)
		case m[7] > 0:
			out = append(out, expectedRun(rest[:m[7]], at))
			at += m[7]
		default:
			out = append(out, mark(rest[:m[9]], at))
			at += m[9]
		}
	}
	return append(out, end(at))
}

// expectedRun returns the token of a run that is not a number.
func expectedRun(s string, at int) api.Token {
	switch {
	case strings.Contains("0123456789", s[:1]):
		return bad(s, at)
	case slices.Contains(words(), s):
		return word(s, at)
	default:
		return name(s, at)
	}
}

// letters returns a string of one byte for each byte.
func letters() []string {
	var out []string
	for c := range 256 {
		out = append(out, string([]byte{byte(c)}))
	}
	return out
}

// texts returns all strings of at most n of the parts.
func texts(parts []string, n int) []string {
	out := []string{""}
	for from := 0; n > 0; n-- {
		to := len(out)
		for _, s := range out[from:to] {
			for _, p := range parts {
				out = append(out, s+p)
			}
		}
		from = to
	}
	return out
}

// parts are what a rule of the chapter speaks of, and bytes beside those.
func parts() []string {
	return []string{"a", "Z", "_", "0", "9", "if", " ", "\n", "/", "=", "-", ">", "&", "|", "!", "@", "\xff"}
}

// longer are texts that are longer than those of parts.
func longer() []string {
	out := []string{
		strings.Repeat("x", api.MaxText), strings.Repeat("1", api.MaxText), strings.Repeat("(", api.MaxText),
		strings.Repeat("&", api.MaxText), strings.Repeat("/", api.MaxText), strings.Repeat(" ", api.MaxText),
		strings.Repeat("/ ", api.MaxText/2), strings.Repeat("//\na", api.MaxText/4), strings.Join(letters(), ""),
		strings.Join(words(), " "), strings.Join(words(), "//\n"), strings.Join(marks(), ""), strings.Join(marks(), " "),
	}
	for n := api.MaxDigits - 1; n <= api.MaxDigits+1; n++ {
		for _, behind := range letters() {
			out = append(out, strings.Repeat("1", n)+behind, strings.Repeat("1", n)+behind+"1")
		}
	}
	return out
}

func TestEveryByteAtEveryPlace(t *testing.T) {
	for _, c := range letters() {
		for _, beside := range []string{"", "a", "1", " ", "(", "=", "/", "&", "\xff", "//", "\n", "if"} {
			for _, text := range []string{c + beside, beside + c, beside + c + beside, " " + c + " "} {
				if got, want := lexer.Tokens(text), expected(text); !slices.Equal(got, want) {
					t.Errorf("Tokens(%q) = %v, expected %v", text, got, want)
				}
			}
		}
	}
}

func TestEveryTwoBytes(t *testing.T) {
	for _, text := range texts(letters(), 2) {
		if got, want := lexer.Tokens(text), expected(text); !slices.Equal(got, want) {
			t.Errorf("Tokens(%q) = %v, expected %v", text, got, want)
		}
	}
}

func TestAllShortTexts(t *testing.T) {
	for _, text := range append(texts(parts(), 4), longer()...) {
		if got, want := lexer.Tokens(text), expected(text); !slices.Equal(got, want) {
			t.Errorf("Tokens(%q) = %v, expected %v", text, got, want)
		}
	}
}

// onlyGaps reports whether a text has nothing but blanks and comments.
func onlyGaps(text string) bool {
	for _, line := range strings.SplitAfter(text, "\n") {
		before, _, _ := strings.Cut(line, "//")
		if strings.Trim(before, " \t\n\r") != "" {
			return false
		}
	}
	return true
}

func TestTokensCoverTheTextOnce(t *testing.T) {
	for _, text := range append(texts(parts(), 4), longer()...) {
		at := 0
		l := lexer.Tokens(text)
		for i, k := range l {
			next := k.At + len(k.Text)
			if k.At < at || next > len(text) || text[k.At:next] != k.Text || !onlyGaps(text[at:k.At]) {
				t.Errorf("token %d of %q: %v", i, text, k)
				break
			}
			if last := i == len(l)-1; (k.Text == "") != last || (k.Kind == api.TokEnd) != last {
				t.Errorf("token %d of %q is empty, or an end: %v", i, text, k)
			}
			at = next
		}
		if at != len(text) {
			t.Errorf("%q is covered up to %d", text, at)
		}
	}
}

// same reports whether tokens have the same Kinds and Texts.
func same(a, b []api.Token) bool {
	return slices.EqualFunc(a, b, func(x, y api.Token) bool { return x.Kind == y.Kind && x.Text == y.Text })
}

func TestTokensOfJoin(t *testing.T) {
	for _, text := range append(texts(parts(), 4), longer()...) {
		l := lexer.Tokens(text)
		joined := lexer.Join(l)
		got := lexer.Tokens(joined)
		// Tokens without blanks between them can have a Join of more than MaxText bytes, which has no tokens.
		if len(joined) > api.MaxText && len(got) != 0 || len(joined) <= api.MaxText && !same(got, l) {
			t.Errorf("%q has the tokens %v, but its Join %v", text, l, got)
		}
	}
}

func TestResultsAreNew(t *testing.T) {
	const text = "a1<=2 // two"
	first := lexer.Tokens(text)
	clear(first[:cap(first)])
	if got := lexer.Tokens(text); !slices.Equal(got, expected(text)) {
		t.Errorf("after a change of an earlier result: %v", got)
	}
	whole := list(name("a", 0), end(1), name("behind", 2))
	before := slices.Clone(whole)
	if got := lexer.Join(whole[:2]); got != "a\n" || !slices.Equal(whole, before) {
		t.Errorf("Join is %q and leaves %v", got, whole)
	}
}
