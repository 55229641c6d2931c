package redact_test

import (
	"math/rand/v2"
	"slices"
	"testing"

	"bowdler/api"
	"bowdler/redact"
	"bowdler/tree"
)

// areAlike holds Alike of two, either way.
func areAlike(t *testing.T, a, b api.Value, clear uint64, want bool) {
	t.Helper()
	if redact.Alike(a, b, clear) != want || redact.Alike(b, a, clear) != want {
		t.Fatalf("Alike of %v, %v, for %x: not %v", a, b, clear, want)
	}
}

// P9.2: what is written out here was told by hand.
func TestAlike(t *testing.T) {
	for _, row := range []struct {
		marksA, a, marksB, b string
		clear                uint64
		want                 bool
	}{
		{"", `{"a":[1,"x"]}`, "", ` { "a" : [ 1.0 , "x" ] } `, 0, true},
		{"", `null`, "", `false`, 0, false},
		{"", `1`, "", `"1"`, 0, false},
		{"", `1`, "", `-1`, 0, false},
		{"", `1`, "", `0.1`, 0, false},
		{"", `"a"`, "", `"b"`, 0, false},
		{"", `[]`, "", `{}`, 0, false},
		{"", `[]`, "", `[null]`, 0, false},
		{"", `[1,2]`, "", `[2,1]`, 0, false},
		{"", `[1,2]`, "", `[1,2,3]`, 0, false},
		{"", `{"a":1}`, "", `{"b":1}`, 0, false},
		{"", `{"a":1,"b":2}`, "", `{"b":2,"a":1}`, 0, false},
		{"1 $", `1`, "1 $", `2`, 0, true},
		{"1 $", `1`, "1 $", `2`, 1, false},
		{"1 $", `1`, "1 $", `1`, 1, true},
		{"1 $", `1`, "2 $", `{"a":1}`, 0, true},
		{"1 $", `1`, "2 $", `1`, 3, false},
		{"1 $", `1`, "2 $", `1`, 1, false},
		{"1 $", `1`, "", `1`, 0, false},
		{"1 $", `1`, "", `1`, 1, false},
		{"3 $", `1`, "1 $", `2`, 1, false},
		{"3 $", `1`, "1 $", `2`, 2, true},
		{"1 $.k", `{"k":1,"l":2}`, "1 $.k", `{"k":[[]],"l":2}`, 0, true},
		{"1 $.k", `{"k":1,"l":2}`, "6 $.k", `{"k":[[]],"l":2}`, 0, true},
		{"1 $.k", `{"k":1,"l":2}`, "6 $.k", `{"k":[[]],"l":2}`, 7, false},
		{"1 $.k", `{"k":1,"l":2}`, "1 $.k", `{"k":1,"l":3}`, 0, false},
		{"1 $.k", `{"k":1,"l":2}`, "1 $.k", `{"l":2,"k":1}`, 0, false},
		{"1 $.k", `{"k":1}`, "1 $.*", `{"l":1}`, 0, false},
		{"1 $[0]", `[1,2]`, "1 $[1]", `[1,2]`, 0, false},
		{"1 $[*]", `[1,2]`, "1 $[*]", `[3,4]`, 0, true},
		{"1 $[*]", `[1,2]`, "1 $[*]", `[3]`, 0, false},
		{"1 $.k  2 $.k[0]", `{"k":[1]}`, "1 $.k  2 $.k[0]", `{"k":[2]}`, 1, true},
		{"1 $.k  2 $.k[0]", `{"k":[1]}`, "1 $.k  2 $.k[0]", `{"k":[1,2]}`, 1, false},
		{"1 $.k  2 $.k[0]", `{"k":[1]}`, "1 $.k  2 $.k[0]", `{"k":[1,2]}`, 2, true},
		{"9223372036854775808 $", `1`, "9223372036854775808 $", `2`, all >> 1, true},
	} {
		areAlike(t, marked(t, row.marksA, row.a), marked(t, row.marksB, row.b), row.clear, row.want)
	}
}

// changes are values that are not v in one part of one node that is not hidden.
func changes(v api.Value, clear uint64) []api.Value {
	if v.Mask&^clear != 0 {
		return nil
	}
	var row []api.Value
	change := func(make func(w *api.Value)) {
		w := v
		w.Keys, w.Kids = slices.Clone(v.Keys), slices.Clone(v.Kids)
		make(&w)
		row = append(row, w)
	}
	change(func(w *api.Value) { w.Kind++ })
	change(func(w *api.Value) { w.Num.Neg = !w.Num.Neg })
	change(func(w *api.Value) { w.Num.Scale++ })
	change(func(w *api.Value) { w.Num.Digits += "1" })
	change(func(w *api.Value) { w.Text += "x" })
	change(func(w *api.Value) { w.Code++ })
	change(func(w *api.Value) { w.Keys = append(w.Keys, "x") })
	change(func(w *api.Value) { w.Kids = append(w.Kids, api.Value{Kind: api.Null}) })
	for bit := range 64 { // of another mask: seen, or hidden now
		change(func(w *api.Value) { w.Mask ^= 1 << bit })
	}
	for i := range v.Keys {
		change(func(w *api.Value) { w.Keys[i] += "x" })
	}
	for i, kid := range v.Kids {
		for _, other := range changes(kid, clear) {
			change(func(w *api.Value) { w.Kids[i] = other })
		}
	}
	return row
}

// P9.2: one part of one node that is not hidden, and they are not Alike; and what is, is as it was.
func TestNotAlike(t *testing.T) {
	tried := 0
	for i, v := range slices.Concat(anyRow(250), none()) {
		clear := clearances[i%len(clearances)]
		areAlike(t, v, v, clear, true)
		areAlike(t, v, roomy(v), clear, true)
		if nodes, _ := tree.Size(v); nodes > 100 { // so many of so many would take long
			continue
		}
		for _, other := range changes(v, clear) {
			areAlike(t, v, other, clear, false)
			tried++
		}
	}
	if tried < 10000 {
		t.Errorf("no more than %d changes were tried", tried)
	}
	empty := api.Value{Kind: api.Object, Keys: []string{}, Kids: []api.Value{}}
	areAlike(t, empty, api.Value{Kind: api.Object}, 0, true)
}

// P9.2 and P9.3: with anything hidden in the place of each hidden node they are Alike, have the same View, and the same holes.
func TestAlikeHasTheSameView(t *testing.T) {
	chance := rand.New(rand.NewPCG(9, 3))
	others := slices.Concat(anyRow(100), none())
	changed := 0
	for _, v := range slices.Concat(anyRow(2000), none()) {
		for _, clear := range clearances {
			other := withOthers(v, clear, func() api.Value {
				changed++
				w := others[chance.IntN(len(others))]
				for w.Mask&^clear == 0 {
					w.Mask = chance.Uint64()
				}
				return w
			})
			areAlike(t, v, other, clear, true)
			if a, b := redact.View(v, clear), redact.View(other, clear); a != b {
				t.Fatalf("two views: %s, %s", a, b)
			}
			if a, b := redact.Show(v, clear, "\"hole\""), redact.Show(other, clear, "\"hole\""); a != b {
				t.Fatalf("shown two ways: %s, %s", a, b)
			}
			if a, b := redact.Holes(v, clear), redact.Holes(other, clear); !slices.EqualFunc(a, b, slices.Equal) {
				t.Fatalf("other holes: %v, %v", a, b)
			}
		}
	}
	if changed < 1000 {
		t.Errorf("no more than %d hidden nodes were tried", changed)
	}
}

// withOthers is v with another one in the place of each hidden node.
func withOthers(v api.Value, clear uint64, other func() api.Value) api.Value {
	if v.Mask&^clear != 0 {
		return other()
	}
	v.Kids = slices.Clone(v.Kids)
	for i, kid := range v.Kids {
		v.Kids[i] = withOthers(kid, clear, other)
	}
	return v
}

// P9.2 and P9.3: of any two, also such as are not Alike: Alike tells no more than that both are the same but for what is hidden.
func TestAlikeOfAnyTwo(t *testing.T) {
	row := slices.Concat(anyRow(150), none()[:60])
	for _, clear := range []uint64{0, 1, all} {
		for _, a := range row {
			for _, b := range row {
				blank := func() api.Value { return api.Value{Kind: 77, Mask: all} }
				want := identical(roomy(withOthers(a, clear, blank)), roomy(withOthers(b, clear, blank)))
				areAlike(t, a, b, clear, want)
				if want && redact.View(a, clear) != redact.View(b, clear) {
					t.Fatalf("two views of %v, %v", a, b)
				}
			}
		}
	}
}
