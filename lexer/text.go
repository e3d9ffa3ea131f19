package lexer

import (
	"recompile/api"
	"strings"
)

// gap returns the length of the blanks and comments at the beginning of a text.
func gap(text string) int {
	at := 0
	for at < len(text) {
		switch {
		case blank(text[at]):
			at++
		case strings.HasPrefix(text[at:], "//"):
			at += line(text[at:])
		default:
			return at
		}
	}
	return at
}

// line returns the length of what comes before the first line feed, which is a blank itself.
func line(text string) int {
	if n := strings.IndexByte(text, '\n'); n >= 0 {
		return n
	}
	return len(text)
}

// run returns the length of the run at the beginning of a text, 0 if there is none.
func run(text string) int {
	for i := range len(text) {
		if !letter(text[i]) && !digit(text[i]) {
			return i
		}
	}
	return len(text)
}

// number reports whether a run is a number of a program.
func number(s string) bool {
	for i := range len(s) {
		if !digit(s[i]) {
			return false
		}
	}
	return len(s) <= api.MaxDigits
}

// mark returns the length of the mark at the beginning of a text that is not empty, 0 if there is none.
func mark(text string) int {
	// A mark of two bytes comes first: "==" is not "=" twice.
	if len(text) > 1 && twoMark(text[:2]) {
		return 2
	}
	if oneMark(text[0]) {
		return 1
	}
	return 0
}

func blank(c byte) bool { return c == ' ' || c == '\t' || c == '\n' || c == '\r' }

// letter reports whether a byte is a letter or an underscore.
func letter(c byte) bool {
	return c >= 'A' && c <= 'Z' || c >= 'a' && c <= 'z' || c == '_'
}

func digit(c byte) bool { return c >= '0' && c <= '9' }
