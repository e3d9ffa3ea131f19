package source_test

import (
	"math"
	"slices"
	"strings"
	"testing"

	"recompile/api"
	"recompile/source"
)

// words returns all strings of at most n of the letters.
func words(letters string, n int) []string {
	out := []string{""}
	for from := 0; n > 0; n-- {
		to := len(out)
		for _, w := range out[from:to] {
			for i := range len(letters) {
				out = append(out, w+letters[i:i+1])
			}
		}
		from = to
	}
	return out
}

// widest tries all places and counts, the greatest place and then the smallest count first.
func widest(old, now string) (int, int, string) {
	for at := len(old); at >= 0; at-- {
		for count := range len(old) - at + 1 {
			head, tail := old[:at], old[at+count:]
			if len(head)+len(tail) <= len(now) && strings.HasPrefix(now, head) && strings.HasSuffix(now, tail) {
				return at, count, now[at : len(now)-len(tail)]
			}
		}
	}
	return -1, -1, ""
}

func TestDiffOfAllShortTexts(t *testing.T) {
	all := words("ab", 5)
	for _, old := range all {
		for _, now := range all {
			at, count, text := source.Diff(old, now)
			wantAt, wantCount, wantText := widest(old, now)
			if at != wantAt || count != wantCount || text != wantText {
				t.Errorf("Diff(%q, %q) = %d, %d, %q", old, now, at, count, text)
			}
		}
	}
}

func TestDiffExamples(t *testing.T) {
	for _, c := range []struct {
		old, now  string
		at, count int
		text      string
	}{
		{"abcd", "axd", 1, 2, "x"},
		{"", "", 0, 0, ""},
		{"", "x", 0, 0, "x"},
		{"x", "", 0, 1, ""},
		{"same", "same", 4, 0, ""},
		{"abab", "ab", 2, 2, ""},
		{"ab", "abab", 2, 0, "ab"},
		{"aXa", "aa", 1, 1, ""},
		{"é", "è", 1, 1, "\xa8"},
		{full() + "tail", full() + "TAIL" + full(), api.MaxText, 4, "TAIL" + full()},
	} {
		at, count, text := source.Diff(c.old, c.now)
		if at != c.at || count != c.count || text != c.text {
			t.Errorf("Diff(%q, %q) = %d, %d, %q", c.old, c.now, at, count, text)
		}
	}
}

func TestApplyOfDiffMakesTheNewText(t *testing.T) {
	all := append(words("ab\n", 3), full(), full()[1:]+"\n")
	for _, old := range all {
		for _, now := range all {
			l := []api.Source{module("a", "other"), module("m", old), module("z", "other")}
			want := []api.Source{module("a", "other"), module("m", now), module("z", "other")}
			at, count, text := source.Diff(old, now)
			got, e := source.Apply(l, api.Edit{Module: "m", At: at, Count: count, Text: text})
			if e != api.OK || !slices.Equal(got, want) {
				t.Errorf("from %q to %q: %v", old, now, e)
			}
		}
	}
}

// walk counts lines and columns byte by byte.
func walk(text string, at int) (int, int) {
	line, column := 1, 1
	for i := range len(text) {
		if i >= at {
			break
		}
		column++
		if text[i] == '\n' {
			line, column = line+1, 1
		}
	}
	return line, column
}

func TestLineOfAllShortTexts(t *testing.T) {
	for _, text := range words("a\n", 6) {
		for at := -2; at <= len(text)+2; at++ {
			line, column := source.Line(text, at)
			wantLine, wantColumn := walk(text, at)
			if line != wantLine || column != wantColumn {
				t.Errorf("Line(%q, %d) = %d, %d", text, at, line, column)
			}
		}
	}
}

func TestLineExamples(t *testing.T) {
	for _, c := range []struct {
		text             string
		at, line, column int
	}{
		{"", 0, 1, 1},
		{"", -1, 1, 1},
		{"", 9, 1, 1},
		{"ab\ncd", 0, 1, 1},
		{"ab\ncd", 2, 1, 3},
		{"ab\ncd", 3, 2, 1},
		{"ab\ncd", 5, 2, 3},
		{"ab\ncd", 6, 2, 3},
		{"ab\ncd", math.MaxInt, 2, 3},
		{"ab\ncd", -1, 1, 1},
		{"ab\ncd", math.MinInt, 1, 1},
		{"\n\n", 2, 3, 1},
		{"a\r\nb", 2, 1, 3},
		{"é\té", 5, 1, 6},
	} {
		if line, column := source.Line(c.text, c.at); line != c.line || column != c.column {
			t.Errorf("Line(%q, %d) = %d, %d", c.text, c.at, line, column)
		}
	}
}
