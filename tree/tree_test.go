package tree_test

import (
	"math"
	"slices"
	"strconv"
	"strings"
	"testing"

	"bowdler/api"
	"bowdler/tree"
)

// each are values of each kind, with nothing that they need not have.
func each() []api.Value {
	return []api.Value{null, no, yes, number("1"), word("x"), list(), object(""), poison(api.ErrKind)}
}

// P4.1
func TestMay(t *testing.T) {
	nines, long, keyed := strings.Repeat("9", 60), strings.Repeat("x", 4096), []string{}
	for i := range 200 {
		keyed = append(keyed, strconv.Itoa(i))
	}
	many := slices.Repeat([]api.Value{null}, 200)
	row := append(each(), anyRow(500)...)
	row = append(row,
		number("0"), number("-0.5"), number("1e-60"), number("-"+nines), number("0."+nines),
		word(""), word("é€\U0001f600\x00\x7f\u0080\ufffd\U0010ffff"), word(long), word(strings.Repeat("é", 2048)), word(long[:4093]+"€"),
		list(many...), list(many[:199]...), list(list(list()), object("")), api.Value{Kind: api.Object, Keys: keyed, Kids: many}, list(list(many...), list(many...)),
		object("a", yes), object("b a", yes, yes), object("a A aa é e\u0301", null, no, yes, list(), word("a")), api.Value{Kind: api.Object, Keys: []string{""}, Kids: many[:1]}, api.Value{Kind: api.Object, Keys: []string{"", "\x00"}, Kids: many[:2]},
		object(long, null), object(strings.Repeat("é", 2048), null), object("a", object("a", object("a", null))), object("a b", object("a b", null, null), object("a b", null, null)),
		poison(1), poison(-1), poison(math.MaxInt), poison(math.MinInt), poison(7),
		api.Value{Kind: api.Null, Keys: []string{}, Kids: []api.Value{}}, api.Value{Kind: api.List, Keys: []string{}, Kids: []api.Value{}}, api.Value{Kind: api.Object, Keys: []string{}}, api.Value{Kind: api.Object, Kids: []api.Value{}},
		chain(1<<16, null))
	for i, v := range row {
		for _, mask := range []uint64{v.Mask, 0, 1, 1 << 63, math.MaxUint64} {
			if !tree.May(masked(mask, v)) {
				t.Errorf("%d: kind %d, mask %d: may not be", i, v.Kind, mask)
			}
		}
	}
}

// isNone holds that v may not be, by itself, with a mask, and as a kid at any place.
func isNone(t *testing.T, v api.Value) {
	t.Helper()
	for i, w := range []api.Value{v, masked(3, v), list(v), list(v, null), list(null, v), list(null, v, null), object("a", v), object("a b", v, yes), object("a b", yes, v), list(object("a", list(v))), masked(1, list(list(), v))} {
		if tree.May(w) {
			t.Errorf("%d: may be: %.200v", i, v)
		}
	}
}

// P4.1: parts that are not as their kind asks.
func TestMayOfWrong(t *testing.T) {
	long, long1 := strings.Repeat("x", 4096), strings.Repeat("x", 4097)
	many, keyed := slices.Repeat([]api.Value{null}, 201), []string{}
	for i := range 201 {
		keyed = append(keyed, strconv.Itoa(i))
	}
	for _, v := range []api.Value{
		{}, {Kind: 9}, {Kind: 10}, {Kind: -1}, {Kind: -8}, {Kind: 1<<32 + 1}, {Kind: math.MaxInt}, {Kind: math.MinInt}, {Kind: 0, Text: "x"}, {Kind: 9, Code: 1}, {Kind: 9, Kids: many[:1]},
		{Kind: api.Number}, {Kind: api.Number, Num: api.Dec{Digits: "01"}}, {Kind: api.Number, Num: api.Dec{Digits: "10", Scale: 1}}, {Kind: api.Number, Num: api.Dec{Neg: true, Digits: "0"}}, {Kind: api.Number, Num: api.Dec{Digits: long}}, {Kind: api.Number, Num: api.Dec{Digits: "1", Scale: -1}}, {Kind: api.Number, Num: api.Dec{Digits: "1", Scale: 61}}, {Kind: api.Number, Text: "1"},
		word("\xff"), word("a\x80"), word("\xc3"), word("\xed\xa0\x80"), word("\xc0\xaf"), word("\xf4\x90\x80\x80"), word(long1), word(strings.Repeat("é", 2049)), word(long[:4094] + "€"), word(long[:4095] + "\xff"),
		list(many...), list(list(many...)), {Kind: api.Object, Keys: keyed, Kids: many}, {Kind: api.Object, Keys: keyed, Kids: many[:200]}, {Kind: api.Object, Keys: keyed[:200], Kids: many}, {Kind: api.Object, Keys: keyed},
		object("a"), object("", null), object("a b", null), object("a", null, null), object("a b c", null, null), object("a b", null, null, null),
		object("a a", null, null), object("a b a", null, null, null), object("b a a", null, null, null), object("a a b", null, null, null), {Kind: api.Object, Keys: []string{"", ""}, Kids: many[:2]}, {Kind: api.Object, Keys: append(keyed[:199:199], "0"), Kids: many[:200]}, object(long+" "+long, null, null),
		object("\xff", null), object("a \xc3", null, null), object("\xed\xa0\x80 a", null, null), object(long1, null), object("a "+long1, null, null), object(strings.Repeat("é", 2049), null),
		{Kind: api.List, Keys: []string{"a"}}, {Kind: api.List, Keys: []string{""}, Kids: many[:1]}, {Kind: api.List, Keys: []string{"a"}, Kids: many[:1]},
		{Kind: api.Poison}, {Kind: api.Poison, Text: "x"}, {Kind: api.Poison, Num: number("40").Num},
	} {
		isNone(t, v)
	}
	isNone(t, chain(1<<10, api.Value{}))
}

// P4.1: parts that are another kind's.
func TestMayOfAnothersParts(t *testing.T) {
	for _, v := range each() {
		wrongs := map[string]api.Value{}
		for i, num := range []api.Dec{number("1").Num, number("0").Num, {Neg: true}, {Scale: 1}, {Digits: "x"}} {
			w := v
			w.Num = num
			if v.Kind != api.Number || i >= 2 {
				wrongs["number "+strconv.Itoa(i)] = w
			}
		}
		for _, text := range []string{"x", "\x00", "\xff"} {
			w := v
			w.Text = text
			if v.Kind != api.Text || text == "\xff" {
				wrongs["text "+text] = w
			}
		}
		for _, code := range []api.Errno{1, -1, api.ErrKind, 0} {
			w := v
			w.Code = code
			if (v.Kind == api.Poison) == (code == 0) {
				wrongs["code "+strconv.Itoa(int(code))] = w
			}
		}
		withKeys, withKids, withBoth := v, v, v
		withKeys.Keys, withKids.Kids = []string{"a"}, []api.Value{null}
		withBoth.Keys, withBoth.Kids = withKeys.Keys, withKids.Kids
		wrongs["keys"] = withKeys
		if v.Kind != api.List {
			wrongs["kids"] = withKids
		}
		if v.Kind != api.Object {
			wrongs["keys and kids"] = withBoth
		}
		for name, w := range wrongs {
			if tree.May(w) {
				t.Errorf("kind %d: %s may be", v.Kind, name)
			}
			isNone(t, w)
		}
	}
}

// otherwise are values that are not v in one part alone.
func otherwise(v api.Value) []api.Value {
	var row []api.Value
	for i := range 6 {
		w := v
		switch i {
		case 0:
			w.Kind++
		case 1:
			w.Mask ^= 1 << 40
		case 2:
			w.Num.Neg = !w.Num.Neg
		case 3:
			w.Num.Scale++
		case 4:
			w.Text += "x"
		case 5:
			w.Code++
		}
		row = append(row, w)
	}
	w := v
	w.Num.Digits += "1"
	row = append(row, w)
	w = v
	w.Keys = append(slices.Clone(v.Keys), "x")
	row = append(row, w)
	w = v
	w.Kids = append(slices.Clone(v.Kids), null)
	row = append(row, w)
	for i, key := range v.Keys {
		w := v
		w.Keys = slices.Clone(v.Keys)
		w.Keys[i] = key + "x"
		row = append(row, w)
	}
	for i, kid := range v.Kids {
		for _, other := range otherwise(kid) {
			w := v
			w.Kids = slices.Clone(v.Kids)
			w.Kids[i] = other
			row = append(row, w)
		}
	}
	return row
}

// P4.2
func TestSame(t *testing.T) {
	for _, v := range append(append(each(), anyRow(150)...), none()...) {
		if !tree.Same(v, v) || !tree.Same(v, copyOf(v)) || !tree.Same(copyOf(v), v) {
			t.Errorf("not the same as itself: %v", v)
		}
		for i, w := range otherwise(v) {
			if tree.Same(v, w) || tree.Same(w, v) {
				t.Errorf("%d: the same: %v, %v", i, v, w)
			}
		}
	}
	a, b := object("a b", null, yes), object("b a", yes, null)
	if tree.Same(a, b) || tree.Same(list(a), list(b)) || tree.Same(list(null, yes), list(yes, null)) || tree.Same(object("a b", null, yes), object("b a", null, yes)) {
		t.Error("another order is the same")
	}
	if tree.Same(list(null), list(null, null)) || tree.Same(list(null, null), list(null)) || tree.Same(list(), list(null)) || tree.Same(list(masked(1, null)), masked(1, list(null))) || tree.Same(list(), object("")) {
		t.Error("what has more is the same")
	}
	empty := api.Value{Kind: api.Object, Keys: []string{}, Kids: []api.Value{}}
	if !tree.Same(empty, api.Value{Kind: api.Object}) || !tree.Same(api.Value{Kind: api.Object}, empty) {
		t.Error("an empty list is not the same as none")
	}
}

// P4.2, R7: what is done of one is not seen by the other.
func TestClone(t *testing.T) {
	for _, v := range append(append(each(), anyRow(300)...), none()...) {
		v = roomy(v)
		was := copyOf(v)
		clone := tree.Clone(v)
		isAsItWas(t, "Clone", v, was)
		if !tree.Same(clone, v) {
			t.Fatalf("Clone(%v): %v", v, clone)
		}
		again, kept := tree.Clone(v), tree.Clone(v)
		scribble(clone)
		isAsItWas(t, "what was done of a clone", v, was)
		if !tree.Same(again, was) {
			t.Fatalf("what was done of a clone is seen by another: %v", again)
		}
		scribble(v)
		if !tree.Same(again, was) || !tree.Same(kept, was) {
			t.Fatalf("what was done of %v is seen by its clone: %v", was, again)
		}
		_ = append(again.Kids, word("more"))
		_ = append(again.Keys, "more")
		isAsItWas(t, "what was added to a clone", kept, copyOf(kept))
	}
}

// P4.4: what Get tells, written out.
func TestGet(t *testing.T) {
	inner := masked(2, list(masked(4, null), yes))
	v := masked(1, object("a b é A", inner, word("x"), null, masked(3, object("a", no))))
	v.Keys, v.Kids = append(v.Keys, ""), append(v.Kids, number("5"))
	for key, want := range map[string]api.Value{"a": masked(3, inner), "b": masked(1, word("x")), "é": masked(1, null), "A": masked(3, v.Kids[3]), "": masked(1, number("5"))} {
		was := copyOf(v)
		got, ok := tree.Get(v, key)
		if !ok || !tree.Same(got, want) {
			t.Errorf("Get(%q): %v, %v; wanted %v", key, got, ok, want)
		}
		isAsItWas(t, "Get", v, was)
	}
	for _, key := range []string{"c", "aa", "B", "e\u0301", "\x00", " ", "0", "\xff", strings.Repeat("a", 5000)} {
		isNothing(t, "Get of "+key)(tree.Get(v, key))
	}
	bare, ok := tree.Get(object("a b", inner, yes), "a")
	if !ok || !tree.Same(bare, inner) {
		t.Errorf("Get of what has no mask: %v, %v", bare, ok)
	}
	isNothing(t, "Get of an empty object")(tree.Get(object(""), ""))
}

// P4.4: what is no object has no key, whatever else it has.
func TestGetOfAnother(t *testing.T) {
	for kind := -1; kind <= 10; kind++ {
		if kind != api.Object {
			isNothing(t, "Get of kind "+strconv.Itoa(kind))(tree.Get(api.Value{Kind: kind, Mask: 7, Keys: []string{"a"}, Kids: []api.Value{yes}}, "a"))
		}
		if kind != api.List {
			for _, i := range []int{0, -1} {
				isNothing(t, "At of kind "+strconv.Itoa(kind))(tree.At(api.Value{Kind: kind, Mask: 7, Keys: []string{"a"}, Kids: []api.Value{yes}}, i))
			}
		}
	}
	isNothing(t, "Get of a key without a kid")(tree.Get(object("a b", null), "b"))
	isNothing(t, "Get of a key without a kid")(tree.Get(object("a"), "a"))
}

// isNothing takes what Get and At tell where there is nothing.
func isNothing(t *testing.T, call string) func(v api.Value, ok bool) {
	return func(v api.Value, ok bool) {
		t.Helper()
		if ok || !tree.Same(v, api.Value{}) {
			t.Errorf("%s: %v, %v", call, v, ok)
		}
	}
}

// P4.4: At from both ends, and beyond these.
func TestAt(t *testing.T) {
	kids := []api.Value{null, masked(2, yes), masked(8, list(masked(16, no)))}
	for count := range 4 {
		v := masked(1, list(kids[:count]...))
		for i := -6; i <= 6; i++ {
			got, ok := tree.At(v, i)
			place := i
			if i < 0 {
				place = count + i
			}
			if place < 0 || place >= count {
				isNothing(t, "At "+strconv.Itoa(i))(got, ok)
				continue
			}
			want := kids[place]
			if !ok || !tree.Same(got, masked(want.Mask|1, want)) {
				t.Errorf("At %d of %d: %v, %v", i, count, got, ok)
			}
		}
		for _, i := range []int{math.MinInt, math.MinInt + 1, math.MinInt + 3, math.MaxInt, math.MaxInt - 1, math.MinInt32, 1 << 32, -1 << 32, 1<<32 - 1} {
			isNothing(t, "At "+strconv.Itoa(i))(tree.At(v, i))
		}
	}
	long := list(slices.Repeat([]api.Value{null}, 199)...)
	long.Kids = append(long.Kids, yes)
	for _, i := range []int{199, -1} {
		if got, ok := tree.At(long, i); !ok || got.Kind != api.True {
			t.Errorf("At %d of 200: %v, %v", i, got, ok)
		}
	}
	for _, i := range []int{200, -201} {
		isNothing(t, "At "+strconv.Itoa(i))(tree.At(long, i))
	}
	v := masked(1, list(kids...))
	if first, ok := tree.At(v, 0); !ok || first.Kind != api.Null || v.Kids[0].Mask != 0 {
		t.Error("At changed what was handed in:", v)
	}
}

// P4.4
func TestSize(t *testing.T) {
	for _, c := range []struct {
		v            api.Value
		nodes, depth int
	}{
		{null, 1, 1}, {word("abc"), 1, 1}, {poison(1), 1, 1}, {list(), 1, 1}, {object(""), 1, 1}, {api.Value{}, 1, 1}, {list(null), 2, 2}, {object("a", null), 2, 2}, {list(null, null, null), 4, 2},
		{list(list(), null), 3, 2}, {list(null, list(null), null), 5, 3}, {list(list(null), list()), 4, 3}, {list(list(), list(list(null)), list(null)), 7, 4}, {object("a b", object("c", list(yes)), no), 5, 4}, {object("a b", no, object("c", list(yes))), 5, 4},
		{list(slices.Repeat([]api.Value{list(null)}, 200)...), 401, 3}, {chain(12, yes), 12, 12}, {chain(1<<16, yes), 1 << 16, 1 << 16}, {masked(1, list(masked(2, list(null)))), 3, 3},
	} {
		if nodes, depth := tree.Size(c.v); nodes != c.nodes || depth != c.depth {
			t.Errorf("Size(%.100v): %d, %d; wanted %d, %d", c.v.Kind, nodes, depth, c.nodes, c.depth)
		}
	}
	for _, v := range anyRow(300) {
		nodes, _ := nodesOf(v, 0)
		deepest := 0
		for _, kid := range v.Kids {
			_, depth := tree.Size(kid)
			deepest = max(deepest, depth)
		}
		if n, depth := tree.Size(v); n != len(nodes) || depth != 1+deepest {
			t.Errorf("Size(%v): %d, %d", v, n, depth)
		}
	}
}

// R1: of what may not be, and of what is deep, each call ends, and changes nothing.
func TestAnyEnds(t *testing.T) {
	row := append(none(), chain(1<<16, null), chain(1<<16, masked(1, object("a", yes))), masked(2, chain(1<<16, api.Value{})))
	for _, v := range row {
		v = roomy(v)
		was := copyOf(v)
		tree.May(v)
		tree.Same(v, was)
		tree.Deep(tree.Clone(v))
		tree.Bare(v)
		tree.With(v, 5)
		tree.Cmp(v, was)
		tree.Get(v, "a")
		tree.At(v, -1)
		tree.Size(v)
		tree.Held(tree.Tidy(v))
		isAsItWas(t, "a call", v, was)
	}
}
