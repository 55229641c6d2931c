package tree_test

import (
	"bytes"
	"cmp"
	"strings"
	"testing"

	"bowdler/api"
	"bowdler/tree"
)

// P4.3: a row that rises, written by hand: each held against each.
func TestCmp(t *testing.T) {
	row := []api.Value{
		{Kind: -1 << 63}, {Kind: -1}, {}, null, no, yes,
		number("-1e59"), number("-100"), number("-99.5"), number("-2"), number("-0.1"), number("-1e-60"), number("0"), number("1e-60"), number("0.09"), number("0.1"), number("0.11"), number("1"), number("2"), number("9"), number("10"), number("10.5"), number("1e59"),
		word(""), word("\x00"), word("\x00a"), word("10"), word("2"), word("A"), word("B"), word("a"), word("a\x00"), word("a "), word("aa"), word("ab"), word("b"), word("ba"), word("\x7f"), word("é"), word("\uffff"), word("\U0001f600"), word("\xff"),
		list(), list(null), list(null, null), list(null, null, null), list(null, yes), list(null, list()), list(no), list(number("1")), list(number("1"), word("b")), list(number("2")), list(number("2"), null), list(word("")), list(list()), list(list(), null), list(list(null)), list(list(yes), null), list(object("")), list(poison(1)),
		object(""), object("a", null), object("a", yes), object("a", list()), object("a", object("a", null)), object("a", object("b", null)), object("b a", null, null), object("b a", yes, null), object("a b", no, null), object("a b", yes, null), object("a b", yes, word("x")), object("b a", null, word("x")), object("c b a", null, null, null), object("c a", no, no), object("a c", yes, null), object("aa", null), object("ab", null), object("b", null), object("b", poison(2)), object("c b", null, null), object("b c", null, yes), object("c", null), object("é", null), object("\uffff", null), object("\U0001f600", null),
		poison(-7), poison(0), poison(1), poison(2), poison(40), poison(1 << 40), {Kind: 9}, {Kind: 1 << 40},
	}
	for i, a := range row {
		for k, b := range row {
			if got := tree.Cmp(a, b); got != cmp.Compare(i, k) {
				t.Errorf("Cmp(%v, %v): %d; wanted %d", a, b, got, cmp.Compare(i, k))
			}
		}
	}
}

// P4.3: what is not looked at.
func TestCmpWithoutRegard(t *testing.T) {
	for i, c := range [][2]api.Value{
		{masked(1, null), null}, {masked(8, number("1")), masked(1, number("1"))}, {masked(1, list(masked(2, null))), masked(4, list(null))}, {list(null, masked(9, yes)), list(masked(9, null), yes)},
		{object("a b", null, yes), object("b a", yes, null)}, {object("a b", object("c d", no, word("x")), null), object("b a", masked(3, null), object("d c", word("x"), no))}, {object("a b c", null, no, yes), object("c a b", yes, null, no)}, {list(object("a b", null, yes)), list(object("b a", yes, null))},
	} {
		was := [2]api.Value{copyOf(c[0]), copyOf(c[1])}
		if tree.Cmp(c[0], c[1]) != 0 || tree.Cmp(c[1], c[0]) != 0 {
			t.Errorf("%d: not the same: %v", i, c)
		}
		isAsItWas(t, "Cmp", c[0], was[0])
		isAsItWas(t, "Cmp", c[1], was[1])
	}
	if tree.Cmp(masked(9, no), yes) != -1 || tree.Cmp(masked(9, yes), masked(1, no)) != 1 || tree.Cmp(masked(1, list(masked(4, no))), list(yes)) != -1 {
		t.Error("a mask changes the order")
	}
	if tree.Cmp(object("a b", yes, null), object("b a", yes, null)) != 1 || tree.Cmp(object("a b", null, yes), object("b a", null, yes)) != -1 {
		t.Error("kids are held against one another in the order of their own")
	}
}

// P4.3, P4.6: values of any form, against an order of bytes, which is one.
func TestCmpOfAny(t *testing.T) {
	row := append(each(), anyRow(400)...)
	for _, v := range row[:200] {
		row = append(row, turned(v))
	}
	for _, a := range row {
		for _, b := range row {
			got := tree.Cmp(a, b)
			if want := bytes.Compare(rank(a), rank(b)); got != want {
				t.Fatalf("Cmp(%v, %v): %d; wanted %d", a, b, got, want)
			}
			same := tree.Same(keysSorted(tree.Bare(a)), keysSorted(tree.Bare(b)))
			if same != (got == 0) {
				t.Fatalf("Cmp(%v, %v) is %d, but that they are the same but for the order of keys is %v", a, b, got, same)
			}
		}
	}
}

// P4.6: values that differ in one part alone, deep down.
func TestCmpOfNear(t *testing.T) {
	for _, v := range anyRow(300) {
		for _, w := range otherwise(v) {
			if !tree.May(w) {
				continue
			}
			same := tree.Same(keysSorted(tree.Bare(v)), keysSorted(tree.Bare(w)))
			if got := tree.Cmp(v, w); same != (got == 0) || tree.Cmp(w, v) != -got {
				t.Fatalf("Cmp(%v, %v): %d", v, w, got)
			}
		}
	}
}

// P4.6: it is one order, also of values that may not be.
func TestCmpIsOneOrder(t *testing.T) {
	row := append(none(), anyRow(60)...)
	order := make([][]int, len(row))
	for i, a := range row {
		for _, b := range row {
			order[i] = append(order[i], tree.Cmp(a, b))
		}
	}
	for i := range row {
		if order[i][i] != 0 {
			t.Errorf("not the same as itself: %.100v", row[i])
		}
		for k := range row {
			if order[i][k] != -order[k][i] {
				t.Fatalf("%d, %d: %d and %d", i, k, order[i][k], order[k][i])
			}
			for l := range row {
				if order[i][k] <= 0 && order[k][l] <= 0 && order[i][l] > min(order[i][k], order[k][l]) {
					t.Fatalf("%d, %d, %d: %d, %d, but %d", i, k, l, order[i][k], order[k][l], order[i][l])
				}
			}
		}
	}
}

// P4.6: of objects that may not be, too, no kid goes unseen.
func TestCmpOfObjectsThatMayNotBe(t *testing.T) {
	row := []api.Value{object("", null), object("", yes), object("a"), object("a", null, no), object("a", null, yes), object("a", no), object("a a", null, null), object("a a", null, no), object("b a", null), object("a b", no), object("a b", no, null), object("a b", no, null, null)}
	for i, a := range row {
		for k, b := range row {
			if got := tree.Cmp(a, b); got != cmp.Compare(i, k) {
				t.Errorf("Cmp(%v, %v): %d; wanted %d", a, b, got, cmp.Compare(i, k))
			}
		}
	}
}

// P4.2 to P4.5: long rows of keys, and deep values.
func TestCmpOfMuch(t *testing.T) {
	var keys []string
	for i := range 200 {
		keys = append(keys, strings.Repeat("k", i+1))
	}
	wide := object(strings.Join(keys, " "), make([]api.Value, 200)...)
	if tree.Cmp(wide, turned(wide)) != 0 {
		t.Error("keys the other way round")
	}
	a, b := chain(1<<16, object("a b", null, no)), chain(1<<16, object("b a", yes, null))
	if tree.Cmp(a, b) != -1 || tree.Cmp(b, a) != 1 || tree.Cmp(a, tree.Clone(a)) != 0 || tree.Same(a, b) || !tree.Same(a, tree.Clone(a)) {
		t.Error("deep values")
	}
	if deep := chain(1<<16, masked(4, null)); tree.Deep(deep) != 4 || tree.Deep(tree.Bare(deep)) != 0 || tree.Held(deep) != 1<<16 || tree.Tidy(masked(1, deep)).Mask != 5 {
		t.Error("masks of deep values")
	}
}
