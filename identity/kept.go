package identity

import "recompile/api"

// definition is what an identity is found by. The module and the name are apart, so that no others look the same.
type definition struct{ module, name string }

func definitionOf(item api.Item) definition { return definition{item.Module, item.Name} }

// byDefinition returns identities by their definitions.
func byDefinition(l []api.Identity) map[definition]api.Identity {
	out := make(map[definition]api.Identity, len(l))
	for _, y := range l {
		out[definitionOf(y.Item)] = y
	}
	return out
}

// byID returns the definitions of identities by their IDs; the first one with an ID counts.
func byID(l []api.Identity) map[int]definition {
	out := make(map[int]definition, len(l))
	for _, y := range l {
		if _, ok := out[y.ID]; !ok {
			out[y.ID] = definitionOf(y.Item)
		}
	}
	return out
}

// kept returns the ID that each item keeps, 0 if none: that of its definition, otherwise that of its shape.
func kept(old []api.Identity, l []api.Item) []int {
	left := byDefinition(old)
	ids := make([]int, len(l))
	for i, item := range l {
		d := definitionOf(item)
		ids[i] = left[d].ID
		delete(left, d)
	}
	pair(ids, l, left)
	return ids
}

// pair gives an item without an ID that of the identity left with its shape, if the shape occurs just once among these items and just once among these identities.
func pair(ids []int, l []api.Item, left map[definition]api.Identity) {
	givers := map[string][]int{}
	for _, y := range left {
		givers[y.Item.Shape] = append(givers[y.Item.Shape], y.ID)
	}
	takers := map[string][]int{}
	for i, item := range l {
		if ids[i] == 0 {
			takers[item.Shape] = append(takers[item.Shape], i)
		}
	}
	for shape, at := range takers {
		if len(at) == 1 && len(givers[shape]) == 1 {
			ids[at[0]] = givers[shape][0]
		}
	}
}
