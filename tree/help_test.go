package tree_test

import (
	"encoding/binary"
	"math/rand/v2"
	"reflect"
	"slices"
	"strings"
	"testing"

	"bowdler/api"
	"bowdler/dec"
)

var (
	null    = api.Value{Kind: api.Null}
	no      = api.Value{Kind: api.False}
	yes     = api.Value{Kind: api.True}
	numbers = []string{"-1e59", "-10", "-9.5", "-0.1", "0", "1e-60", "0.1", "0.25", "1", "2", "9", "10", "100"} // rising
	words   = []string{"", "\x00", "\x00\x00", "A", "a", "a\x00", "aa", "ab", "b", "é", "\uffff", "\U0001f600"} // rising
	codes   = []api.Errno{-7, api.ErrArg, api.ErrKind, api.ErrRaised, 9999}
)

func number(s string) api.Value {
	n, e := dec.Parse(s)
	if e != api.OK {
		panic(s)
	}
	return api.Value{Kind: api.Number, Num: n}
}

func word(s string) api.Value { return api.Value{Kind: api.Text, Text: s} }

func poison(code api.Errno) api.Value { return api.Value{Kind: api.Poison, Code: code} }

func list(kids ...api.Value) api.Value { return api.Value{Kind: api.List, Kids: kids} }

// object takes keys with blanks between.
func object(keys string, kids ...api.Value) api.Value {
	return api.Value{Kind: api.Object, Keys: strings.Fields(keys), Kids: kids}
}

func masked(mask uint64, v api.Value) api.Value {
	v.Mask = mask
	return v
}

// chain is a list in a list, down to so many levels, with a last one at the bottom.
func chain(levels int, last api.Value) api.Value {
	for range levels - 1 {
		last = list(last)
	}
	return last
}

// anyValue is a value that may be, of no more than so many levels.
func anyValue(chance *rand.Rand, levels int) api.Value {
	v := api.Value{Kind: 1 + chance.IntN(8)}
	if levels > 1 && chance.IntN(2) == 0 {
		v.Kind = api.List + chance.IntN(2)
	}
	if chance.IntN(4) == 0 {
		v.Mask = 1 << chance.IntN(64)
	}
	switch v.Kind {
	case api.Number:
		v.Num = number(numbers[chance.IntN(len(numbers))]).Num
	case api.Text:
		v.Text = words[chance.IntN(len(words))]
	case api.Poison:
		v.Code = codes[chance.IntN(len(codes))]
	case api.Object:
		v.Keys = []string{}
		for _, i := range chance.Perm(len(words))[:chance.IntN(4)] {
			v.Keys = append(v.Keys, words[i])
		}
	}
	count := len(v.Keys)
	if v.Kind == api.List {
		count = chance.IntN(4)
	}
	for range count {
		if levels > 1 {
			v.Kids = append(v.Kids, anyValue(chance, levels-1))
		} else {
			v.Kids = append(v.Kids, null)
		}
	}
	return v
}

// anyRow is a row of such values; it is the same in each run.
func anyRow(count int) []api.Value {
	chance := rand.New(rand.NewPCG(4, uint64(count)))
	var row []api.Value
	for range count {
		row = append(row, anyValue(chance, 1+chance.IntN(5)))
	}
	return row
}

// none are values that may not be: what is asked of them is nothing, but that each call ends.
func none() []api.Value {
	row := []api.Value{
		{}, {Kind: 9}, {Kind: -1}, {Kind: 1 << 40}, {Kind: -1 << 63}, {Kind: 0, Kids: []api.Value{null, {}}}, {Kind: 9, Keys: []string{"a"}, Kids: []api.Value{yes}},
		{Kind: api.Number}, {Kind: api.Number, Num: api.Dec{Digits: "x"}}, {Kind: api.Number, Num: api.Dec{Digits: "1", Scale: -1 << 63}}, {Kind: api.Number, Num: api.Dec{Digits: "007", Scale: 1<<63 - 1}}, {Kind: api.Number, Num: api.Dec{Neg: true, Digits: "0"}},
		word("\xff"), word("\xc3"), word(strings.Repeat("x", 5000)), {Kind: api.Poison}, {Kind: api.Null, Code: 1}, {Kind: api.Text, Kids: []api.Value{null, masked(4, yes)}},
		object("a"), object("a b"), object("b a"), object("a b", null), object("b a", null), object("", null), object("a", null, yes), object("a", yes, null), object("b", null, yes), object("", null, yes), object("", yes), object("a a", null, yes), object("a a", yes, null), object("a a"), object("a a", null), object("a b a", yes, null, no),
		{Kind: api.List, Keys: []string{"a"}}, {Kind: api.List, Keys: []string{"a"}, Kids: []api.Value{null}}, list(api.Value{}), list(null, api.Value{Kind: 9}), {Kind: api.List, Kids: make([]api.Value, 201)},
	}
	for _, v := range slices.Clone(row) {
		row = append(row, list(v), object("k", v), masked(6, list(v, null)))
	}
	return row
}

// copyOf is v in memory of its own, with as much spare room behind each list, and the same in it.
func copyOf(v api.Value) api.Value {
	if v.Keys != nil {
		keys := make([]string, cap(v.Keys))
		copy(keys, v.Keys[:cap(v.Keys)])
		v.Keys = keys[:len(v.Keys)]
	}
	if v.Kids != nil {
		kids := make([]api.Value, cap(v.Kids))
		for i, kid := range v.Kids[:cap(v.Kids)] {
			kids[i] = copyOf(kid)
		}
		v.Kids = kids[:len(v.Kids)]
	}
	return v
}

// roomy is v with spare room behind each list, in which something lies.
func roomy(v api.Value) api.Value {
	v.Keys = append(slices.Clone(v.Keys), "spare", "room")[:len(v.Keys)]
	kids := make([]api.Value, len(v.Kids)+2)
	for i, kid := range v.Kids {
		kids[i] = roomy(kid)
	}
	kids[len(v.Kids)] = word("spare")
	v.Kids = kids[:len(v.Kids)]
	return v
}

// isAsItWas holds that neither v nor what lies behind its lists has changed.
func isAsItWas(t *testing.T, call string, v, was api.Value) {
	t.Helper()
	if !identical(v, was) {
		t.Fatalf("%s changed what was handed in: %v, was %v", call, v, was)
	}
}

func identical(a, b api.Value) bool {
	kidsA, kidsB := a.Kids[:cap(a.Kids)], b.Kids[:cap(b.Kids)]
	if len(a.Kids) != len(b.Kids) || len(a.Keys) != len(b.Keys) || len(kidsA) != len(kidsB) || !slices.Equal(a.Keys[:cap(a.Keys)], b.Keys[:cap(b.Keys)]) {
		return false
	}
	for i := range kidsA {
		if !identical(kidsA[i], kidsB[i]) {
			return false
		}
	}
	a.Keys, a.Kids, b.Keys, b.Kids = nil, nil, nil, nil
	return reflect.DeepEqual(a, b)
}

// scribble writes over all of v, and over the room behind its lists.
func scribble(v api.Value) {
	for i, kid := range v.Kids[:cap(v.Kids)] {
		scribble(kid)
		v.Kids[:cap(v.Kids)][i] = api.Value{Kind: 77, Mask: 7, Text: "scribbled"}
	}
	for i := range v.Keys[:cap(v.Keys)] {
		v.Keys[:cap(v.Keys)][i] = "scribbled"
	}
}

// nodesOf are v and all below it, and how many masked ones stand above each.
func nodesOf(v api.Value, above int) (nodes []api.Value, masks []int) {
	nodes, masks = []api.Value{v}, []int{above}
	if v.Mask != 0 {
		above++
	}
	for _, kid := range v.Kids {
		n, m := nodesOf(kid, above)
		nodes, masks = append(nodes, n...), append(masks, m...)
	}
	return nodes, masks
}

// rank writes a value that may be (with numbers of the row above) so that the order of the bytes is the one of P4.3.
func rank(v api.Value) []byte {
	b := []byte{byte(v.Kind)}
	switch v.Kind {
	case api.Number:
		b = append(b, byte(slices.IndexFunc(numbers, func(s string) bool { return number(s).Num == v.Num })))
	case api.Text:
		b = append(b, rankText(v.Text)...)
	case api.List:
		for _, kid := range v.Kids {
			b = append(append(b, 1), rank(kid)...)
		}
		b = append(b, 0)
	case api.Object:
		kids := map[string]api.Value{}
		for i, key := range v.Keys {
			kids[key] = v.Kids[i]
		}
		keys := slices.Sorted(slices.Values(v.Keys))
		for _, key := range keys {
			b = append(append(b, 1), rankText(key)...)
		}
		b = append(b, 0)
		for _, key := range keys {
			b = append(b, rank(kids[key])...)
		}
	case api.Poison:
		b = binary.BigEndian.AppendUint64(b, uint64(v.Code)^1<<63)
	}
	return b
}

// rankText ends a text so that one that goes on is greater.
func rankText(s string) []byte {
	return append([]byte(strings.ReplaceAll(s, "\x00", "\x00\xff")), 0, 1)
}

// keysSorted is v with the keys of each object in their order.
func keysSorted(v api.Value) api.Value {
	old := v.Kids
	v.Kids = nil
	for _, kid := range old {
		v.Kids = append(v.Kids, keysSorted(kid))
	}
	if v.Kind == api.Object {
		keys, kids := v.Keys, v.Kids
		v.Keys, v.Kids = slices.Sorted(slices.Values(keys)), nil
		for _, key := range v.Keys {
			v.Kids = append(v.Kids, kids[slices.Index(keys, key)])
		}
	}
	return v
}

// turned is v with the keys of each object the other way round.
func turned(v api.Value) api.Value {
	old := v.Kids
	v.Kids = nil
	for _, kid := range old {
		v.Kids = append(v.Kids, turned(kid))
	}
	if v.Kind == api.Object {
		v.Keys = slices.Clone(v.Keys)
		slices.Reverse(v.Keys)
		slices.Reverse(v.Kids)
	}
	return v
}
