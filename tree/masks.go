package tree

import (
	"slices"

	"bowdler/api"
)

// Deep are the masks of v and of all below it.
func Deep(v api.Value) uint64 {
	var mask uint64
	walk(v, 1, func(node api.Value, _ int) { mask |= node.Mask })
	return mask
}

// With is v with mask added to its own. What is below stays v's, but who appends to a list of it gets a new one.
func With(v api.Value, mask uint64) api.Value {
	v.Mask |= mask
	v.Keys, v.Kids = slices.Clip(v.Keys), slices.Clip(v.Kids)
	return v
}

// Bare is v without masks.
func Bare(v api.Value) api.Value {
	v.Mask = 0
	return eachKid(v, Bare)
}

// Tidy gathers masks at the highest node of each branch that has one.
func Tidy(v api.Value) api.Value {
	if v.Mask == 0 {
		return eachKid(v, Tidy)
	}
	return With(Bare(v), Deep(v))
}

// Held is how many nodes are not below one that has a mask.
func Held(v api.Value) int {
	held := 1
	if v.Mask != 0 {
		return held
	}
	for _, kid := range v.Kids {
		held += Held(kid)
	}
	return held
}
