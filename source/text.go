package source

import "strings"

// Diff returns the place, the count of bytes and the text of the edit that makes now of old.
func Diff(old, now string) (int, int, string) {
	at := prefix(old, now)
	// The common end is looked for behind the common beginning only: the two may not overlap.
	end := suffix(old[at:], now[at:])
	return at, len(old) - at - end, now[at : len(now)-end]
}

// prefix returns how many bytes a and b have in common at their beginnings.
func prefix(a, b string) int {
	n := 0
	for n < len(a) && n < len(b) && a[n] == b[n] {
		n++
	}
	return n
}

// suffix returns how many bytes a and b have in common at their ends.
func suffix(a, b string) int {
	n := 0
	for n < len(a) && n < len(b) && a[len(a)-1-n] == b[len(b)-1-n] {
		n++
	}
	return n
}

// Line returns the line and the column of a place, both from 1 on.
func Line(text string, at int) (int, int) {
	before := text[:min(max(at, 0), len(text))]
	// Without a line feed LastIndexByte gives -1, which is just before the beginning.
	return strings.Count(before, "\n") + 1, len(before) - strings.LastIndexByte(before, '\n')
}
