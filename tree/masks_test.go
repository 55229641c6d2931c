package tree_test

import (
	"math"
	"testing"

	"bowdler/api"
	"bowdler/tree"
)

// P4.2
func TestDeep(t *testing.T) {
	for want, row := range map[uint64][]api.Value{
		0: {null, list(null, list()), object("a", yes)}, 1: {masked(1, null), list(masked(1, null)), list(null, list(list(masked(1, yes)))), masked(1, list(masked(1, null)))}, 1 << 63: {masked(1<<63, null), object("a b", null, list(masked(1<<63, null)))},
		7: {masked(1, list(masked(2, list(masked(4, null))))), list(masked(1, null), masked(2, null), masked(4, null)), masked(3, object("a b", masked(6, null), yes)), list(list(masked(5, null)), masked(2, object("a", masked(2, null))))}, math.MaxUint64: {list(masked(math.MaxUint64-1, null), masked(1, list())), masked(math.MaxUint64, null)},
	} {
		for _, v := range row {
			if got := tree.Deep(v); got != want {
				t.Errorf("Deep(%v): %d; wanted %d", v, got, want)
			}
		}
	}
	for _, v := range anyRow(300) {
		var want uint64
		nodes, _ := nodesOf(v, 0)
		for _, node := range nodes {
			want |= node.Mask
		}
		if got := tree.Deep(v); got != want {
			t.Errorf("Deep(%v): %d; wanted %d", v, got, want)
		}
	}
}

// P4.2, P4.6: With adds to v's own mask alone.
func TestWith(t *testing.T) {
	for _, v := range append(append(each(), anyRow(200)...), none()...) {
		v = roomy(v)
		was := copyOf(v)
		for _, mask := range []uint64{0, 1, 4, 6, 1 << 63, math.MaxUint64, v.Mask} {
			got := tree.With(v, mask)
			isAsItWas(t, "With", v, was)
			if !tree.Same(got, masked(v.Mask|mask, v)) {
				t.Fatalf("With(%v, %d): %v", v, mask, got)
			}
			if tree.Deep(got) != tree.Deep(v)|mask {
				t.Fatalf("Deep of With(%v, %d): %d", v, mask, tree.Deep(got))
			}
			_ = append(got.Kids, word("more"))
			_ = append(got.Keys, "more")
			isAsItWas(t, "what was added behind With", v, was)
		}
	}
}

// isOwn holds that what a call made of v shares nothing that may be written with it.
func isOwn(t *testing.T, call string, made, v api.Value) {
	t.Helper()
	was := copyOf(v)
	scribble(made)
	isAsItWas(t, "what was done of what "+call+" told", v, was)
}

// P4.2
func TestBare(t *testing.T) {
	for _, v := range append(append(each(), anyRow(300)...), none()...) {
		v = roomy(v)
		was := copyOf(v)
		got := tree.Bare(v)
		isAsItWas(t, "Bare", v, was)
		if !tree.Same(got, withoutMasks(v)) {
			t.Fatalf("Bare(%v): %v", v, got)
		}
		isOwn(t, "Bare", got, v)
	}
	if got := tree.Bare(masked(1, list(masked(2, list(masked(4, null))), masked(8, object("a", masked(16, word("x"))))))); !tree.Same(got, list(list(null), object("a", word("x")))) {
		t.Error("Bare:", got)
	}
}

// withoutMasks is Bare by another way.
func withoutMasks(v api.Value) api.Value {
	v = copyOf(v)
	row := []*api.Value{&v}
	for len(row) > 0 {
		row[0].Mask = 0
		for i := range row[0].Kids {
			row = append(row, &row[0].Kids[i])
		}
		row = row[1:]
	}
	return v
}

// P4.5: written out by hand.
func TestTidy(t *testing.T) {
	for i, c := range []struct {
		v, want api.Value
		held    int
	}{
		{null, null, 1}, {masked(5, null), masked(5, null), 1}, {list(), list(), 1}, {masked(1, list()), masked(1, list()), 1}, {list(null, yes), list(null, yes), 3}, {object("b a", null, list(yes)), object("b a", null, list(yes)), 4},
		{list(masked(2, null)), list(masked(2, null)), 2}, {masked(1, list(null, null)), masked(1, list(null, null)), 1}, {masked(1, list(masked(2, null), null)), masked(3, list(null, null)), 1}, {masked(1, list(list(masked(2, null), masked(4, list(masked(8, yes)))))), masked(15, list(list(null, list(yes)))), 1},
		{list(masked(1, list(masked(2, null))), null), list(masked(3, list(null)), null), 3}, {list(list(masked(1, list(masked(1, null), null)), masked(4, null)), masked(8, object("a", masked(16, null)))), list(list(masked(1, list(null, null)), masked(4, null)), masked(24, object("a", null))), 5},
		{object("b a", masked(1, list(masked(2, null))), word("x")), object("b a", masked(3, list(null)), word("x")), 3}, {masked(1<<63, object("a", masked(1, poison(40)))), masked(1<<63|1, object("a", poison(40))), 1}, {list(object("a", list(null, masked(1, null)))), list(object("a", list(null, masked(1, null)))), 5},
	} {
		if got := tree.Tidy(c.v); !tree.Same(got, c.want) {
			t.Errorf("%d: Tidy: %v; wanted %v", i, got, c.want)
		}
		if held := tree.Held(c.v); held != c.held {
			t.Errorf("%d: Held: %d; wanted %d", i, held, c.held)
		}
	}
}

// P4.5: of values of any form: masks are gathered, and nothing else changes.
func TestTidyOfAny(t *testing.T) {
	for _, v := range append(append(each(), anyRow(500)...), none()...) {
		v = roomy(v)
		was := copyOf(v)
		got := tree.Tidy(v)
		isAsItWas(t, "Tidy", v, was)
		if !tree.Same(tree.Bare(got), tree.Bare(v)) || tree.Deep(got) != tree.Deep(v) || !tree.Same(tree.Tidy(got), got) {
			t.Fatalf("Tidy(%v): %v", v, got)
		}
		nodes, above := nodesOf(v, 0)
		tidied, _ := nodesOf(got, 0)
		held := 0
		for i, node := range nodes {
			want := uint64(0)
			if above[i] == 0 {
				held++
				if node.Mask != 0 {
					want = tree.Deep(node)
				}
			}
			if tidied[i].Mask != want {
				t.Fatalf("Tidy(%v): node %d has %d; wanted %d", v, i, tidied[i].Mask, want)
			}
		}
		if tree.Held(v) != held || tree.Held(got) != held {
			t.Fatalf("Held(%v): %d, tidied %d; wanted %d", v, tree.Held(v), tree.Held(got), held)
		}
		isOwn(t, "Tidy", got, v)
	}
}

// P4.5: Held of what has no mask is all that it has.
func TestHeldOfNoMask(t *testing.T) {
	for _, v := range append(anyRow(200), chain(1<<16, null)) {
		nodes, _ := tree.Size(v)
		if held := tree.Held(tree.Bare(v)); held != nodes {
			t.Errorf("Held of %d nodes: %d", nodes, held)
		}
		if held := tree.Held(masked(1, v)); held != 1 {
			t.Errorf("Held of a masked one: %d", held)
		}
	}
}
