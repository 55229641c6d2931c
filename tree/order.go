package tree

import (
	"cmp"
	"slices"
	"strings"

	"bowdler/api"
	"bowdler/dec"
)

// Cmp tells which one is the lesser, without regard to masks.
func Cmp(a, b api.Value) int {
	if a.Kind != b.Kind {
		return cmp.Compare(a.Kind, b.Kind)
	}
	switch a.Kind {
	case api.Number:
		return dec.Cmp(a.Num, b.Num)
	case api.Text:
		return strings.Compare(a.Text, b.Text)
	case api.List:
		return slices.CompareFunc(a.Kids, b.Kids, Cmp)
	case api.Object:
		return compareObjects(a, b)
	case api.Poison:
		return cmp.Compare(a.Code, b.Code)
	}
	return 0
}

func compareObjects(a, b api.Value) int {
	keysA, kidsA := byKeys(a)
	keysB, kidsB := byKeys(b)
	if order := slices.Compare(keysA, keysB); order != 0 {
		return order
	}
	return slices.CompareFunc(kidsA, kidsB, Cmp)
}

// byKeys are an object's keys, sorted, and its kids in the order of these. In one that may not be, kids without a key stand last, so that all of them are ordered.
func byKeys(v api.Value) (keys []string, kids []api.Value) {
	places := make([]int, len(v.Keys))
	for i := range places {
		places[i] = i
	}
	slices.SortStableFunc(places, func(i, k int) int { return strings.Compare(v.Keys[i], v.Keys[k]) })
	for _, place := range places {
		keys = append(keys, v.Keys[place])
		if place < len(v.Kids) {
			kids = append(kids, v.Kids[place])
		}
	}
	keyless := v.Kids[min(len(v.Keys), len(v.Kids)):]
	return keys, append(kids, keyless...)
}
