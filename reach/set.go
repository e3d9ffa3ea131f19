package reach

import (
	"maps"
	"slices"
)

// set has the strings that are reached.
type set map[string]bool

func (s set) add(l []string) {
	for _, sym := range l {
		s[sym] = true
	}
}

// list returns the strings, ascending.
func (s set) list() []string { return slices.Sorted(maps.Keys(s)) }
