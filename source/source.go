// Package source is layer 1: modules and edits. See shared/doc/01-source.md.
package source

import (
	"recompile/api"
	"slices"
)

// Check returns OK if the sources are valid, otherwise ErrInvalid.
func Check(l []api.Source) api.Errno {
	for i, s := range l {
		if !permitted(s) || i > 0 && l[i-1].Name >= s.Name {
			return api.ErrInvalid
		}
	}
	return api.OK
}

// Find returns the text of the first module with a name, and whether there is one.
func Find(l []api.Source, name string) (string, bool) {
	k := named(l, name)
	if k < 0 {
		return "", false
	}
	return l[k].Text, true
}

// Put adds a module, or replaces the one with its name.
func Put(l []api.Source, s api.Source) ([]api.Source, api.Errno) {
	if e := Check(l); e != api.OK {
		return unchanged(l), e
	}
	if !permitted(s) {
		return unchanged(l), api.ErrRange
	}
	k := first(l, func(x api.Source) bool { return x.Name >= s.Name })
	switch {
	case k < 0:
		return splice(l, len(l), 0, s), api.OK
	case l[k].Name == s.Name:
		return splice(l, k, 1, s), api.OK
	default:
		return splice(l, k, 0, s), api.OK
	}
}

// Drop takes a module away.
func Drop(l []api.Source, name string) ([]api.Source, api.Errno) {
	if e := Check(l); e != api.OK {
		return unchanged(l), e
	}
	k := named(l, name)
	if k < 0 {
		return unchanged(l), api.ErrUnknown
	}
	return splice(l, k, 1), api.OK
}

// Apply changes the text of a module.
func Apply(l []api.Source, e api.Edit) ([]api.Source, api.Errno) {
	if c := Check(l); c != api.OK {
		return unchanged(l), c
	}
	k := named(l, e.Module)
	if k < 0 {
		return unchanged(l), api.ErrUnknown
	}
	text, c := edited(l[k].Text, e)
	if c != api.OK {
		return unchanged(l), c
	}
	return splice(l, k, 1, api.Source{Name: e.Module, Text: text}), api.OK
}

// first returns the index of the first module that is looked for, or -1.
func first(l []api.Source, wanted func(api.Source) bool) int {
	return slices.IndexFunc(l, wanted)
}

// named returns the index of the first module with a name, or -1.
func named(l []api.Source, name string) int {
	return first(l, func(s api.Source) bool { return s.Name == name })
}

// splice returns a copy of l in which count modules from at on give way to others.
func splice(l []api.Source, at, count int, others ...api.Source) []api.Source {
	out := make([]api.Source, len(l)-count+len(others))
	copy(out, l[:at])
	copy(out[at:], others)
	copy(out[at+len(others):], l[at+count:])
	return out
}

// unchanged returns a copy, because no result shares memory with an argument.
func unchanged(l []api.Source) []api.Source { return splice(l, 0, 0) }

// edited returns a text after an edit.
func edited(text string, e api.Edit) (string, api.Errno) {
	// The sum of At and Count could overflow, so Count is compared with what is left behind At: less than 0 if At is too great.
	if e.At < 0 || e.Count < 0 || e.Count > len(text)-e.At {
		return "", api.ErrRange
	}
	if len(text)-e.Count+len(e.Text) > api.MaxText {
		return "", api.ErrLimit
	}
	return text[:e.At] + e.Text + text[e.At+e.Count:], api.OK
}
