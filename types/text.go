package types

import (
	"strings"

	"recompile/api"
)

// Print returns the text of a type.
func Print(t api.Type) string {
	var b strings.Builder
	write(&b, t)
	return b.String()
}

func write(b *strings.Builder, t api.Type) {
	b.WriteString(t.Name)
	if len(t.Args) == 0 {
		return
	}
	mark := "<"
	for _, k := range t.Args {
		b.WriteString(mark)
		write(b, k)
		mark = ","
	}
	b.WriteString(">")
}

// reader reads the text of a type.
type reader struct {
	rest  string
	nodes int
}

// Parse returns the type with a text, and whether there is one.
func Parse(s string) (api.Type, bool) {
	r := &reader{rest: s}
	t, ok := r.node()
	if !ok || r.rest != "" {
		return api.Type{}, false
	}
	return t, true
}

func (r *reader) node() (api.Type, bool) {
	t := api.Type{Name: r.name()}
	if t.Name == "" || r.nodes == api.MaxNodes {
		return t, false
	}
	r.nodes++
	if !r.skip("<") {
		return t, true
	}
	for {
		k, ok := r.node()
		if !ok {
			return t, false
		}
		t.Args = append(t.Args, k)
		if !r.skip(",") {
			return t, r.skip(">")
		}
	}
}

// name reads a plain Name; it is empty if there is none.
func (r *reader) name() string {
	end := strings.IndexAny(r.rest, "<>,")
	if end < 0 {
		end = len(r.rest)
	}
	name := r.rest[:end]
	r.rest = r.rest[end:]
	return name
}

// skip reports whether a mark comes next, and goes on behind it.
func (r *reader) skip(mark string) bool {
	rest, ok := strings.CutPrefix(r.rest, mark)
	r.rest = rest
	return ok
}
