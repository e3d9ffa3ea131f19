package fact

import (
	"recompile/api"
	"recompile/types"
)

// list returns the pack of a list, whose elements are written by a function.
func list[T any](l []T, write func(T) string) string {
	out := make([]string, len(l))
	for i, x := range l {
		out[i] = write(x)
	}
	return Pack(out)
}

// listOf returns what reads the pack of a list, whose elements are read by a function.
func listOf[T any](read func(string) (T, bool)) func(string) ([]T, bool) {
	return func(s string) ([]T, bool) {
		packed, ok := Unpack(s)
		if !ok {
			return nil, false
		}
		var out []T
		for _, p := range packed {
			x, ok := read(p)
			if !ok {
				return nil, false
			}
			out = append(out, x)
		}
		return out, true
	}
}

// fields are those of a fact that is read, one after the other.
type fields struct {
	left   []string // what is not read yet
	failed bool     // whether there is no fact with what was read
}

// fieldsOf returns the fields of the fact with a string.
func fieldsOf(s string) *fields {
	left, ok := Unpack(s)
	return &fields{left: left, failed: !ok}
}

// next reads a field by a function.
func next[T any](f *fields, read func(string) (T, bool)) T {
	var x T
	if f.failed || len(f.left) == 0 {
		f.failed = true
		return x
	}
	x, ok := read(f.left[0])
	f.left, f.failed = f.left[1:], !ok
	return x
}

// end returns a fact that was made of fields, and true if each of them was read, and there are no others.
func end[T any](f *fields, x T) (T, bool) {
	if f.failed || len(f.left) > 0 {
		var none T
		return none, false
	}
	return x, true
}

// text returns a string as it is, which is how it stands in a fact.
func text(s string) string { return s }

// readText reads a string that stands in a fact.
func readText(s string) (string, bool) { return s, true }

// readType reads a type. The zero type, which types.Parse does not read, has the empty text.
func readType(s string) (api.Type, bool) {
	if s == "" {
		return api.Type{}, true
	}
	return types.Parse(s)
}
