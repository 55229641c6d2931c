package redact_test

import (
	"math/rand/v2"
	"reflect"
	"slices"
	"strconv"
	"strings"
	"testing"

	"bowdler/api"
	"bowdler/path"
	"bowdler/policy"
	"bowdler/text"
)

const all = 1<<64 - 1 // a clearance of all categories

// clearances are of all sorts: none, one, some, all.
var clearances = []uint64{0, 1, 2, 4, 7, 1 << 63, all >> 1, all &^ 1, all &^ 2, all}

func key(s string) api.Step { return api.Step{Kind: api.StKey, Key: s} }

func at(n int) api.Step { return api.Step{Kind: api.StAt, N: n} }

// document is a value without masks.
func document(t *testing.T, s string) api.Value {
	t.Helper()
	v, _, e := text.One(s)
	if e != api.OK {
		t.Fatalf("no document: %q: %d", s, e)
	}
	return v
}

// steps are those of a pattern, or of a place.
func steps(t *testing.T, s string) []api.Step {
	t.Helper()
	l, e := path.Parse(s)
	if e != api.OK {
		t.Fatalf("no pattern: %q: %d", s, e)
	}
	return l
}

// marked is a document with marks on it, each a mask and a pattern, with blanks between: "1 $.a  4 $**".
func marked(t *testing.T, marks, s string) api.Value {
	t.Helper()
	var p api.Policy
	words := strings.Fields(marks)
	for i := 0; i < len(words); i += 2 {
		mask, err := strconv.ParseUint(words[i], 10, 64)
		if err != nil {
			t.Fatal(marks)
		}
		p.Marks = append(p.Marks, api.Mark{Path: steps(t, words[i+1]), Mask: mask})
	}
	return policy.Label(p, document(t, s))
}

func masked(mask uint64, v api.Value) api.Value {
	v.Mask = mask
	return v
}

func word(s string) api.Value { return api.Value{Kind: api.Text, Text: s} }

func number(digits string) api.Value {
	return api.Value{Kind: api.Number, Num: api.Dec{Digits: digits}}
}

func list(kids ...api.Value) api.Value { return api.Value{Kind: api.List, Kids: kids} }

// chain is a list in a list, down to so many levels, with a last one at the bottom.
func chain(levels int, last api.Value) api.Value {
	for range levels - 1 {
		last = list(last)
	}
	return last
}

// someWords are texts and keys of all sorts: plain ones, such as are quoted, and such as look like what is written around them.
func someWords() []string {
	return []string{"a", "b", "id", "z_9", "", "A", "a b", "#", "\"#\"", ",", "[", "}", "\\", "\n", "\x00\x7f", "é", "\u2028", "\U0001f600", strings.Repeat("x", 100)}
}

// anyLeaf is a value without kids.
func anyLeaf(chance *rand.Rand) api.Value {
	words := someWords()
	switch chance.IntN(4) {
	case 0:
		return word(words[chance.IntN(len(words))])
	case 1:
		return api.Value{Kind: api.Number, Num: []api.Dec{{Digits: "0"}, {Neg: true, Digits: "25", Scale: 1}, {Digits: "1", Scale: 3}}[chance.IntN(3)]}
	case 2:
		return api.Value{Kind: api.Poison, Code: []api.Errno{api.ErrKind, -1, 1 << 40}[chance.IntN(3)]}
	}
	return api.Value{Kind: api.Null + chance.IntN(3)}
}

// anyValue may be, and has no more than so many levels; some of it is masked.
func anyValue(chance *rand.Rand, levels int) api.Value {
	v := anyLeaf(chance)
	if levels > 1 && chance.IntN(4) > 0 {
		v = api.Value{Kind: api.List + chance.IntN(2)}
		words := someWords()
		for _, i := range chance.Perm(len(words))[:chance.IntN(5)] {
			if v.Kind == api.Object {
				v.Keys = append(v.Keys, words[i])
			}
			v.Kids = append(v.Kids, anyValue(chance, levels-1))
		}
	}
	if chance.IntN(3) == 0 {
		v.Mask = []uint64{1, 2, 3, 4, 1 << 63, 1<<63 | 1, all}[chance.IntN(7)]
	}
	return v
}

// anyRow is a row of such values; it is the same in each run.
func anyRow(count int) []api.Value {
	chance := rand.New(rand.NewPCG(9, uint64(count)))
	var row []api.Value
	for range count {
		row = append(row, anyValue(chance, 1+chance.IntN(6)))
	}
	return row
}

// none are values that may not be, some of them masked.
func none() []api.Value {
	kids := []api.Value{masked(1, word("x")), list(masked(2, word("y")), word("z"))}
	row := []api.Value{
		{}, {Kind: 9}, {Kind: -1}, {Kind: 1 << 40}, {Kind: -1 << 63}, {Kind: api.Number}, {Kind: api.Number, Num: api.Dec{Digits: "x", Scale: -5}}, {Kind: api.Number, Num: api.Dec{Digits: "1", Scale: 1<<63 - 1}}, word("\xff\"\xc3"), word(strings.Repeat("x", 5000)), {Kind: api.Poison}, {Kind: api.Null, Code: 1, Text: "x"},
		{Kind: 0, Kids: kids}, {Kind: 9, Keys: []string{"a", "b"}, Kids: kids}, {Kind: api.Null, Kids: kids}, {Kind: api.Text, Text: "t", Keys: []string{"a"}, Kids: kids}, {Kind: api.Poison, Code: 3, Keys: []string{"a", "b"}, Kids: kids},
		{Kind: api.Object, Kids: kids}, {Kind: api.Object, Keys: []string{"a"}, Kids: kids}, {Kind: api.Object, Keys: []string{"a", "b", "c"}, Kids: kids}, {Kind: api.Object, Keys: []string{"a", "a"}, Kids: kids}, {Kind: api.Object, Keys: []string{"\xff", "\n"}, Kids: kids}, {Kind: api.Object, Keys: []string{"a"}},
		{Kind: api.List, Keys: []string{"a"}, Kids: kids}, list(make([]api.Value, 1000)...), list(api.Value{}, api.Value{Kind: 9}),
	}
	for _, v := range slices.Clone(row) {
		row = append(row, masked(1, v), list(v, masked(4, v)), masked(2, list(v)), api.Value{Kind: api.Object, Keys: []string{"p", "q"}, Kids: []api.Value{masked(all, v), v}})
	}
	return row
}

// visible visits v and all below it that is not below something hidden, each with its place.
func visible(v api.Value, clear uint64, place []api.Step, visit func(node *api.Value, place []api.Step)) api.Value {
	if v.Mask|clear != clear {
		visit(&v, place)
		return v
	}
	visit(&v, place)
	v.Kids = slices.Clone(v.Kids)
	for i, kid := range v.Kids {
		step := at(i)
		if v.Kind == api.Object {
			step = key(v.Keys[i])
		}
		v.Kids[i] = visible(kid, clear, slices.Concat(place, []api.Step{step}), visit)
	}
	return v
}

// roomy is v with spare room behind each list, in which something lies.
func roomy(v api.Value) api.Value {
	v.Keys = append(slices.Clone(v.Keys), "spare", "room")[:len(v.Keys)]
	kids := make([]api.Value, len(v.Kids)+2)
	for i, kid := range v.Kids {
		kids[i] = roomy(kid)
	}
	kids[len(v.Kids)] = masked(5, word("spare"))
	v.Kids = kids[:len(v.Kids)]
	return v
}

// identical tells whether both are the same, also behind the ends of lists.
func identical(a, b api.Value) bool {
	kidsA, kidsB := a.Kids[:cap(a.Kids)], b.Kids[:cap(b.Kids)]
	if len(a.Kids) != len(b.Kids) || len(a.Keys) != len(b.Keys) || !slices.EqualFunc(kidsA, kidsB, identical) || !slices.Equal(a.Keys[:cap(a.Keys)], b.Keys[:cap(b.Keys)]) {
		return false
	}
	a.Keys, a.Kids, b.Keys, b.Kids = nil, nil, nil, nil
	return reflect.DeepEqual(a, b)
}
