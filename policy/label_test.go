package policy_test

import (
	"math/rand/v2"
	"reflect"
	"slices"
	"testing"

	"bowdler/api"
	"bowdler/path"
	"bowdler/policy"
	"bowdler/tree"
)

// P8.3: what is written out here was told by hand.
func TestMaskAt(t *testing.T) {
	for _, row := range []struct {
		marks, at string
		want      uint64
	}{
		{"", "$", 0},
		{"", "$.a[1]", 0},
		{"1 $", "$", 1},
		{"1 $", "$.a", 0},
		{"2 $.k", "$.k", 2},
		{"2 $.k", "$.k[0]", 0},
		{"2 $.k", "$", 0},
		{"2 $.k", "$.l", 0},
		{"2 $.k", "$.l.k", 0},
		{"2 $.k  5 $**.id", "$.k", 2},
		{"2 $.k  5 $**.id", "$.k.id", 5},
		{"2 $.k  5 $**.id", "$.id", 5},
		{"2 $.k  5 $**.id", "$[4].id", 5},
		{"2 $.k  5 $**.id", "$[4].id.x", 0},
		{"2 $.*  5 $.k", "$.k", 7},
		{"6 $.*  5 $.k", "$.k", 7},
		{"1 $.k  1 $.k", "$.k", 1},
		{"1 $.k  2 $.l  4 $.k", "$.k", 5},
		{"1 $**  2 $.a**  4 $[*]  8 $.*", "$", 1},
		{"1 $**  2 $.a**  4 $[*]  8 $.*", "$.a", 11},
		{"1 $**  2 $.a**  4 $[*]  8 $.*", "$.a[7]", 3},
		{"1 $**  2 $.a**  4 $[*]  8 $.*", "$[7]", 5},
		{"9223372036854775808 $[2]  1 $[2]", "$[2]", 1<<63 + 1},
		{"18446744073709551615 $**", "$.a.b.c", 1<<64 - 1},
	} {
		if mask := policy.MaskAt(api.Policy{Marks: marks(t, row.marks)}, steps(t, row.at)); mask != row.want {
			t.Errorf("MaskAt of %s at %s: %d; wanted %d", row.marks, row.at, mask, row.want)
		}
	}
}

// P8.3: what is marked hangs on the marks alone, whatever they are, and in whatever order.
func TestMaskAtOfMarksThatMayNotBe(t *testing.T) {
	l := []api.Mark{{Path: []api.Step{key("a")}, Mask: 1}, {Mask: 0}, {Path: []api.Step{{}}, Mask: 2}, {Path: []api.Step{key("\xff")}, Mask: 4}, {Path: []api.Step{at(-1)}, Mask: 8}, {Path: slices.Repeat([]api.Step{{Kind: api.StDeep}}, 30), Mask: 1 << 40}}
	for len(l) < 40 {
		l = append(l, api.Mark{Path: []api.Step{key("a")}, Mask: 1 << len(l)})
	}
	var behind uint64
	for _, mark := range l[6:] {
		behind |= mark.Mask
	}
	for range 2 {
		p := api.Policy{Marks: l}
		for _, row := range []struct {
			at   []api.Step
			want uint64
		}{
			{nil, 1 << 40},
			{[]api.Step{key("a")}, 1<<40 | 1 | behind},
			{[]api.Step{{}}, 1 << 40},
			{[]api.Step{key("\xff")}, 1<<40 | 4},
			{[]api.Step{at(-1)}, 1<<40 | 8},
		} {
			if mask := policy.MaskAt(p, row.at); mask != row.want {
				t.Errorf("MaskAt at %v: %x; wanted %x", row.at, mask, row.want)
			}
		}
		slices.Reverse(l)
	}
}

// P8.3: what is written out here was told by hand; the masks are those of all nodes, the higher ahead.
func TestLabel(t *testing.T) {
	for _, row := range []struct {
		marks, document string
		want            []uint64
	}{
		{"", `{"a":[1,{"b":2}]}`, []uint64{0, 0, 0, 0, 0}},
		{"1 $", `7`, []uint64{1}},
		{"1 $", `[7]`, []uint64{1, 0}},
		{"1 $.b", `{"a":1,"b":[2]}`, []uint64{0, 0, 1, 0}},
		{"1 $.b  2 $.b[0]", `{"a":1,"b":[2,3]}`, []uint64{0, 0, 1, 2, 0}},
		{"1 $[0]  2 $[1]  4 $[*]", `[null,null,null]`, []uint64{0, 5, 6, 4}},
		{"1 $[1]", `{"1":0}`, []uint64{0, 0}},
		{`1 $["1"]`, `{"0":0,"1":0}`, []uint64{0, 0, 1}},
		{`1 $["1"]`, `[0,0]`, []uint64{0, 0, 0}},
		{"1 $.*", `{"x y":0,"":1}`, []uint64{0, 1, 1}},
		{`2 $[""]`, `{"x y":0,"":1}`, []uint64{0, 0, 2}},
		{"1 $.*", `[0,1]`, []uint64{0, 0, 0}},
		{"1 $[*]", `{"a":0}`, []uint64{0, 0}},
		{"4 $**", `{"a":[[]],"b":{}}`, []uint64{4, 4, 4, 4}},
		{"2 $.k  3 $**.id", `{"k":[1],"x":{"id":2,"y":3}}`, []uint64{0, 2, 0, 0, 3, 0}},
		{"1 $**.id", `{"id":{"id":[{"id":0},1]}}`, []uint64{0, 1, 1, 0, 1, 0}},
		{"1 $.a[*].b  2 $**[1]**", `{"a":[{"b":0,"c":1},{"b":[2]}]}`, []uint64{0, 0, 0, 1, 0, 2, 3, 2}},
		{"1 $[10]", `[0,1,2,3,4,5,6,7,8,9,10,11]`, []uint64{0, 0, 0, 0, 0, 0, 0, 0, 0, 0, 0, 1, 0}},
	} {
		v := document(t, row.document)
		got := policy.Label(api.Policy{Marks: marks(t, row.marks)}, v)
		if !slices.Equal(masksOf(got), row.want) {
			t.Errorf("Label of %s, %s: %d; wanted %d", row.marks, row.document, masksOf(got), row.want)
		}
		if !tree.Same(tree.Bare(got), v) {
			t.Errorf("Label of %s, %s: %v", row.marks, row.document, got)
		}
	}
}

// P8.3: each node has MaskAt of its place, whatever it had; all else is as it was.
func TestLabelOfAnyValues(t *testing.T) {
	chance := rand.New(rand.NewPCG(8, 3))
	marked := 0
	for _, p := range anyPolicies(1500) {
		v := anyValue(chance, 1+chance.IntN(5))
		got := policy.Label(p, v)
		if !tree.Same(tree.Bare(got), tree.Bare(v)) {
			t.Fatalf("Label made %v of %v", got, v)
		}
		walk(got, nil, func(node api.Value, place []api.Step) {
			var want uint64
			for _, mark := range p.Marks {
				if path.Match(mark.Path, place) {
					want |= mark.Mask
				}
			}
			if node.Mask != want || policy.MaskAt(p, place) != want {
				t.Fatalf("%s is marked %x; wanted %x", path.Print(place), node.Mask, want)
			}
			if want != 0 {
				marked++
			}
		})
	}
	if marked < 1000 {
		t.Errorf("no more than %d marks were tried", marked)
	}
}

// P8.4: where no mark leads all masks are 0, whatever they were.
func TestLabelWhereNothingIsMarked(t *testing.T) {
	chance := rand.New(rand.NewPCG(8, 4))
	for range 300 {
		v := anyValue(chance, 5)
		v.Mask = 1<<64 - 1
		for _, l := range []string{"", "1 $.nobody", "1 $.nobody**  2 $**[9998]", "4 $.nobody.*  8 $[9998][*]"} {
			got := policy.Label(api.Policy{Cats: names(4), Marks: marks(t, l)}, v)
			if tree.Deep(got) != 0 || !tree.Same(got, tree.Bare(v)) {
				t.Fatalf("Label of %s, %v: %v", l, v, got)
			}
		}
	}
}

// R6 and R7: what is handed in stays as it is, with what lies behind lists; what is answered shares nothing with that, and is the same each time.
func TestLabelIsItsOwn(t *testing.T) {
	chance := rand.New(rand.NewPCG(8, 5))
	for i, p := range anyPolicies(300) {
		chance2 := rand.New(rand.NewPCG(8, uint64(i)))
		v := roomy(anyValue(chance2, 1+chance.IntN(4)))
		was := roomy(v)
		first := policy.Label(p, v)
		second := policy.Label(p, v)
		if !tree.Same(first, second) {
			t.Fatalf("two answers: %v, %v", first, second)
		}
		kept := tree.Clone(second)
		scribble(first)
		if !identical(v, was) {
			t.Fatalf("changed: %v, was %v", v, was)
		}
		if !tree.Same(second, kept) {
			t.Fatalf("two answers share what lies below: %v, was %v", second, kept)
		}
		scribble(v)
		if !tree.Same(second, kept) {
			t.Fatalf("what is answered shares what was handed in: %v, was %v", second, kept)
		}
	}
}

// R1: of values that may not be each call ends. A kid without a key, or of what has none, has no place: none but a StDeep leads there.
func TestLabelOfWhatMayNotBe(t *testing.T) {
	kids := []api.Value{{Kind: api.Null, Mask: 9}, {Kind: api.List, Kids: []api.Value{{}}}}
	p := api.Policy{Marks: marks(t, `1 $  2 $.a  4 $.*  8 $[0]  16 $[*]  32 $[""]  64 $.a[0]`)}
	all := api.Policy{Marks: marks(t, "1 $**")}
	for _, row := range []struct {
		v    api.Value
		want []uint64
	}{
		{api.Value{}, []uint64{1}},
		{api.Value{Kind: -1 << 63, Mask: 4}, []uint64{1}},
		{api.Value{Kind: api.Null, Kids: kids}, []uint64{1, 0, 0, 0}},
		{api.Value{Kind: api.Text, Keys: []string{"a", "b"}, Kids: kids}, []uint64{1, 0, 0, 0}},
		{api.Value{Kind: 9, Keys: []string{"a"}, Kids: kids}, []uint64{1, 0, 0, 0}},
		{api.Value{Kind: api.Object, Kids: kids}, []uint64{1, 0, 0, 0}},
		{api.Value{Kind: api.Object, Keys: []string{"a"}, Kids: kids}, []uint64{1, 6, 0, 0}},
		{api.Value{Kind: api.Object, Keys: []string{"b", "a"}, Kids: kids}, []uint64{1, 4, 6, 64}},
		{api.Value{Kind: api.Object, Keys: []string{"a", "a"}, Kids: kids}, []uint64{1, 6, 6, 64}},
		{api.Value{Kind: api.Object, Keys: []string{"", "b", "a"}, Kids: kids}, []uint64{1, 36, 4, 0}},
		{api.Value{Kind: api.Object, Keys: []string{"a"}}, []uint64{1}},
		{api.Value{Kind: api.List, Keys: []string{"a"}, Kids: kids}, []uint64{1, 24, 16, 0}},
	} {
		got := policy.Label(p, row.v)
		if !slices.Equal(masksOf(got), row.want) {
			t.Errorf("Label of %v: %d; wanted %d", row.v, masksOf(got), row.want)
		}
		if !tree.Same(tree.Bare(got), tree.Bare(row.v)) {
			t.Errorf("Label made %v of %v", got, row.v)
		}
		for _, mask := range masksOf(policy.Label(all, row.v)) {
			if mask != 1 {
				t.Errorf("Label of %v: $** does not lead to all", row.v)
			}
		}
		for _, odd := range oddPolicies() {
			if got := policy.Label(odd, row.v); !reflect.DeepEqual(got, policy.Label(odd, row.v)) {
				t.Errorf("Label of %v is not the same again", row.v)
			}
		}
	}
}

// R1: values as deep as the document allows, and wide ones.
func TestLabelOfGreatValues(t *testing.T) {
	v := api.Value{Kind: api.True, Mask: 1}
	for range 1<<16 - 1 {
		v = api.Value{Kind: api.List, Mask: 2, Kids: []api.Value{v}}
	}
	got := policy.Label(api.Policy{Marks: marks(t, "1 $  2 $[*]  4 $[0][0]  8 $**  16 $.a**")}, v)
	for level := 0; ; level++ {
		want := uint64(8)
		if level < 3 {
			want |= 1 << level
		}
		if got.Mask != want {
			t.Fatalf("level %d is marked %d; wanted %d", level, got.Mask, want)
		}
		if len(got.Kids) == 0 {
			if level != 1<<16-1 || got.Kind != api.True {
				t.Errorf("%d levels", level)
			}
			break
		}
		got = got.Kids[0]
	}
	wide := policy.Label(api.Policy{Marks: marks(t, "1 $[9999]  2 $**[*]")}, api.Value{Kind: api.List, Kids: make([]api.Value, 1<<17)})
	for i, kid := range wide.Kids {
		want := uint64(2)
		if i == 9999 {
			want = 3
		}
		if kid.Mask != want {
			t.Fatalf("%d is marked %d", i, kid.Mask)
		}
	}
}
