package policy_test

import (
	"math/rand/v2"
	"reflect"
	"slices"
	"strconv"
	"strings"
	"testing"

	"bowdler/api"
	"bowdler/path"
	"bowdler/text"
)

func key(s string) api.Step { return api.Step{Kind: api.StKey, Key: s} }

func at(n int) api.Step { return api.Step{Kind: api.StAt, N: n} }

// steps are those of a pattern that may be.
func steps(t *testing.T, s string) []api.Step {
	t.Helper()
	l, e := path.Parse(s)
	if e != api.OK {
		t.Fatalf("no pattern: %q: %d", s, e)
	}
	return l
}

// document is a value without marks.
func document(t *testing.T, s string) api.Value {
	t.Helper()
	v, _, e := text.One(s)
	if e != api.OK {
		t.Fatalf("no document: %q: %d", s, e)
	}
	return v
}

// marks are of masks and patterns, with blanks between: "1 $.a  4 $**".
func marks(t *testing.T, s string) []api.Mark {
	t.Helper()
	var l []api.Mark
	words := strings.Fields(s)
	for i := 0; i < len(words); i += 2 {
		mask, err := strconv.ParseUint(words[i], 10, 64)
		if err != nil {
			t.Fatal(s)
		}
		l = append(l, api.Mark{Path: steps(t, words[i+1]), Mask: mask})
	}
	return l
}

// names are so many that may be.
func names(count int) []string {
	var l []string
	for i := range count {
		l = append(l, "c_"+strconv.Itoa(i))
	}
	return l
}

// someKeys are of all sorts: plain ones, and such as are quoted.
func someKeys() []string {
	return []string{"a", "k", "id", "z_9", "", "A", "a b", " $.a", "\"", "\\", "\n", "\x00\x7f", "é", "$", "mark", "\u2028", strings.Repeat("x", 24), strings.Repeat("\x01", 24), strings.Repeat("é", 12)}
}

// anyPath is a pattern that may be.
func anyPath(chance *rand.Rand) []api.Step {
	keys := someKeys()
	var l []api.Step
	for range chance.IntN(api.MaxSteps + 1) {
		step := api.Step{Kind: 1 + chance.IntN(5)}
		switch step.Kind {
		case api.StKey:
			step.Key = keys[chance.IntN(len(keys))]
		case api.StAt:
			step.N = []int{0, 1, 2, 10, 9999}[chance.IntN(5)]
		}
		l = append(l, step)
	}
	return l
}

// anyPolicy is one that may be.
func anyPolicy(chance *rand.Rand) api.Policy {
	tokens := append(someKeys(), "#", "token", "fuel 9", "\r\n", "\U0001f600")
	p := api.Policy{Cats: names(chance.IntN(api.MaxCats + 1)), Token: tokens[chance.IntN(len(tokens))], Fuel: 1 + chance.IntN(api.MaxFuel), Quota: 1 + chance.IntN(api.MaxFuel)}
	chance.Shuffle(len(p.Cats), func(i, k int) { p.Cats[i], p.Cats[k] = p.Cats[k], p.Cats[i] })
	if len(p.Cats) == 0 {
		return p
	}
	for range chance.IntN(api.MaxRules + 1) {
		mark := api.Mark{Path: anyPath(chance)}
		for range 1 + chance.IntN(4) {
			mark.Mask |= 1 << chance.IntN(len(p.Cats))
		}
		p.Marks = append(p.Marks, mark)
	}
	return p
}

// anyPolicies are the same ones in each run.
func anyPolicies(count int) []api.Policy {
	chance := rand.New(rand.NewPCG(8, uint64(count)))
	var l []api.Policy
	for range count {
		l = append(l, anyPolicy(chance))
	}
	return l
}

// samePolicy tells whether two have the same; lists that are empty may be nil.
func samePolicy(a, b api.Policy) bool {
	return slices.Equal(a.Cats, b.Cats) && a.Token == b.Token && a.Fuel == b.Fuel && a.Quota == b.Quota &&
		slices.EqualFunc(a.Marks, b.Marks, func(a, b api.Mark) bool { return a.Mask == b.Mask && slices.Equal(a.Path, b.Path) })
}

// oddPolicies may not be: what is asked of them is nothing, but that each call ends, and what MaskAt and Label say of marks.
func oddPolicies() []api.Policy {
	long := slices.Repeat([]api.Step{{Kind: api.StDeep}, key("a")}, 50)
	return []api.Policy{
		{},
		{Cats: []string{"", "A", "\xff", "a b", "a", "a"}, Marks: []api.Mark{{}, {Mask: 1<<64 - 1}, {Path: []api.Step{{}}, Mask: 4}}},
		{Cats: names(200), Marks: make([]api.Mark, 100), Token: "\xff", Fuel: -1 << 63, Quota: 1<<63 - 1},
		{Marks: []api.Mark{{Path: long, Mask: 1}, {Path: []api.Step{{Kind: 6, Key: "a", N: 3}, {Kind: -1}}, Mask: 2}, {Path: []api.Step{key("\xff\n"), at(-1)}, Mask: 8}}},
		{Token: strings.Repeat("\n\xff\"", 1000), Fuel: -1},
	}
}

// walk is v and all below it, the higher ahead, with the place of each.
func walk(v api.Value, place []api.Step, visit func(node api.Value, place []api.Step)) {
	visit(v, place)
	for i, kid := range v.Kids {
		below := slices.Clone(place)
		switch v.Kind {
		case api.Object:
			below = append(below, key(v.Keys[i]))
		case api.List:
			below = append(below, at(i))
		}
		walk(kid, below, visit)
	}
}

// masksOf are those of v and all below it, the higher ahead.
func masksOf(v api.Value) []uint64 {
	l := []uint64{v.Mask}
	for _, kid := range v.Kids {
		l = append(l, masksOf(kid)...)
	}
	return l
}

// anyValue has no more than so many levels; some of it is masked.
func anyValue(chance *rand.Rand, levels int) api.Value {
	v := api.Value{Kind: 1 + chance.IntN(8), Mask: chance.Uint64() & chance.Uint64() & chance.Uint64()}
	if levels > 1 && chance.IntN(4) > 0 {
		v.Kind = api.List + chance.IntN(2)
	}
	switch v.Kind {
	case api.Number:
		v.Num = api.Dec{Digits: "25", Scale: 1}
	case api.Text:
		v.Text = "text"
	case api.Poison:
		v.Code = api.ErrKind
	case api.List, api.Object:
		keys := someKeys()
		for _, i := range chance.Perm(len(keys))[:chance.IntN(5)] {
			if v.Kind == api.Object {
				v.Keys = append(v.Keys, keys[i])
			}
			v.Kids = append(v.Kids, anyValue(chance, levels-1))
		}
	}
	return v
}

// roomy is v with spare room behind each list, in which something lies.
func roomy(v api.Value) api.Value {
	v.Keys = append(slices.Clone(v.Keys), "spare", "room")[:len(v.Keys)]
	kids := make([]api.Value, len(v.Kids)+2)
	for i, kid := range v.Kids {
		kids[i] = roomy(kid)
	}
	kids[len(v.Kids)] = api.Value{Kind: api.Text, Mask: 5, Text: "spare"}
	v.Kids = kids[:len(v.Kids)]
	return v
}

// identical tells whether both are the same, also behind the ends of lists.
func identical(a, b api.Value) bool {
	kidsA, kidsB := a.Kids[:cap(a.Kids)], b.Kids[:cap(b.Kids)]
	if len(a.Kids) != len(b.Kids) || len(a.Keys) != len(b.Keys) || !slices.EqualFunc(kidsA, kidsB, identical) || !slices.Equal(a.Keys[:cap(a.Keys)], b.Keys[:cap(b.Keys)]) {
		return false
	}
	a.Keys, a.Kids, b.Keys, b.Kids = nil, nil, nil, nil
	return reflect.DeepEqual(a, b)
}

// scribble writes over all of v, and over the room behind its lists.
func scribble(v api.Value) {
	for i, kid := range v.Kids[:cap(v.Kids)] {
		scribble(kid)
		v.Kids[:cap(v.Kids)][i] = api.Value{Kind: 77, Mask: 7, Text: "scribbled"}
	}
	for i := range v.Keys[:cap(v.Keys)] {
		v.Keys[:cap(v.Keys)][i] = "scribbled"
	}
}
