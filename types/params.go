package types

import (
	"strings"

	"recompile/api"
)

// parameter returns the name of a parameter that can be replaced, without "$", and whether a type is one.
func parameter(t api.Type) (string, bool) {
	if len(t.Args) > 0 {
		return "", false
	}
	return strings.CutPrefix(t.Name, "$")
}

// Put returns a type in which parameters are replaced by types.
func Put(t api.Type, names []string, l []api.Type) api.Type {
	known := map[string]api.Type{}
	for i := range min(len(names), len(l)) {
		if _, twice := known[names[i]]; !twice {
			known[names[i]] = l[i]
		}
	}
	return put(t, known)
}

func put(t api.Type, known map[string]api.Type) api.Type {
	if name, ok := parameter(t); ok {
		if x, ok := known[name]; ok {
			return clone(x)
		}
	}
	return api.Type{Name: t.Name, Args: each(t.Args, func(k api.Type) api.Type { return put(k, known) })}
}

// matcher finds types of parameters.
type matcher struct {
	names []string
	types []api.Type
	at    map[string]int // where a name is in names
}

// Match returns the parameters of a pattern and their types, with which it is another type, and whether there are such.
func Match(pattern, t api.Type) ([]string, []api.Type, bool) {
	m := &matcher{at: map[string]int{}}
	if !m.match(pattern, t) {
		return nil, nil, false
	}
	return m.names, m.types, true
}

func (m *matcher) match(pattern, t api.Type) bool {
	if name, ok := parameter(pattern); ok {
		return m.give(name, t)
	}
	if pattern.Name != t.Name || len(pattern.Args) != len(t.Args) {
		return false
	}
	for i, k := range pattern.Args {
		if !m.match(k, t.Args[i]) {
			return false
		}
	}
	return true
}

// give gives a parameter its type, and reports whether it has no other one.
func (m *matcher) give(name string, t api.Type) bool {
	if i, ok := m.at[name]; ok {
		return Same(m.types[i], t)
	}
	m.at[name] = len(m.names)
	m.names = append(m.names, name)
	m.types = append(m.types, clone(t))
	return true
}
