package identity_test

import (
	"slices"
	"strconv"
	"strings"

	"recompile/api"
)

// maxNext is the greatest Next that is permitted.
const maxNext = 1 << 40

// items reads items: "m.a=s" is one with the Module m, the Name a and the Shape s.
func items(text string) []api.Item {
	var out []api.Item
	for _, s := range strings.Fields(text) {
		definition, shape, _ := strings.Cut(s, "=")
		module, name, _ := strings.Cut(definition, ".")
		out = append(out, api.Item{Module: module, Name: name, Shape: shape})
	}
	return out
}

// list reads identities: "3:m.a=s" is one with the ID 3.
func list(text string) []api.Identity {
	var out []api.Identity
	for _, s := range strings.Fields(text) {
		id, item, _ := strings.Cut(s, ":")
		n, err := strconv.Atoi(id)
		if err != nil {
			panic(s)
		}
		out = append(out, api.Identity{ID: n, Item: items(item)[0]})
	}
	return out
}

func state(next int, text string) api.Identities {
	return api.Identities{Next: next, List: list(text)}
}

// withIDs returns identities with these IDs and definitions that differ.
func withIDs(next int, ids ...int) api.Identities {
	x := api.Identities{Next: next}
	for i, id := range ids {
		x.List = append(x.List, api.Identity{ID: id, Item: api.Item{Module: "m", Name: strconv.Itoa(i)}})
	}
	return x
}

// equal reports whether identities are equal; none and nil are.
func equal(a, b api.Identities) bool { return a.Next == b.Next && slices.Equal(a.List, b.List) }

func clone(x api.Identities) api.Identities {
	return api.Identities{Next: x.Next, List: slices.Clone(x.List)}
}

func itemsOf(l []api.Identity) []api.Item {
	var out []api.Item
	for _, y := range l {
		out = append(out, y.Item)
	}
	return out
}

// ordered returns items as Update takes them.
func ordered(l []api.Item) []api.Item {
	out := slices.Clone(l)
	slices.SortFunc(out, func(a, b api.Item) int {
		if c := strings.Compare(a.Module, b.Module); c != 0 {
			return c
		}
		return strings.Compare(a.Name, b.Name)
	})
	return out
}

// many returns n items of different names, which ascend.
func many(n int, module, shape string) []api.Item {
	var out []api.Item
	for i := range n {
		out = append(out, api.Item{Module: module, Name: strconv.Itoa(1000000 + i), Shape: shape})
	}
	return out
}

// counted returns the identities of items with the IDs from first on.
func counted(next, first int, l []api.Item) api.Identities {
	x := api.Identities{Next: next}
	for i, item := range l {
		x.List = append(x.List, api.Identity{ID: first + i, Item: item})
	}
	return x
}

// dice are numbers that look accidental and are the same in every run.
type dice struct{ state uint64 }

// roll returns a number from 0 to n-1.
func (d *dice) roll(n int) int {
	d.state = d.state*6364136223846793005 + 1442695040888963407
	return int(d.state>>33) % n
}
