package redact_test

import (
	"slices"
	"strconv"
	"strings"
	"testing"

	"bowdler/api"
	"bowdler/path"
	"bowdler/policy"
	"bowdler/redact"
	"bowdler/tree"
)

// printed are places as path.Print writes them, a blank between two.
func printed(places [][]api.Step) string {
	var l []string
	for _, place := range places {
		l = append(l, path.Print(place))
	}
	return strings.Join(l, " ")
}

// P9.2: what is written out here was told by hand.
func TestHoles(t *testing.T) {
	for _, row := range []struct {
		marks, document string
		clear           uint64
		want            string
	}{
		{"1 $.b", `{"a":1,"b":[2]}`, 0, "$.b"},
		{"1 $.b", `{"a":1,"b":[2]}`, 1, ""},
		{"", `{"a":1,"b":[2]}`, 0, ""},
		{"1 $", `null`, 0, "$"},
		{"1 $", `[1,[2]]`, 0, "$"},
		{"1 $**", `[1,[2]]`, 0, "$"},
		{"1 $**", `[1,[2]]`, 1, ""},
		{"1 $[*]", `[1,[2],{}]`, 0, "$[0] $[1] $[2]"},
		{"1 $.*", `{"b":{"c":1},"a":[]}`, 0, "$.b $.a"},
		{"1 $.*", `{"b":{"c":1},"":0,"x y":1,"é":2}`, 0, `$.b $[""] $["x y"] $["é"]`},
		{"1 $**.id", `[{"id":{"id":1},"x":{"id":[2]}},"id",[{"id":3}]]`, 0, "$[0].id $[0].x.id $[2][0].id"},
		{"1 $.a  2 $.a.b", `{"a":{"b":1,"c":2}}`, 0, "$.a"},
		{"1 $.a  2 $.a.b", `{"a":{"b":1,"c":2}}`, 2, "$.a"},
		{"1 $.a  2 $.a.b", `{"a":{"b":1,"c":2}}`, 1, "$.a.b"},
		{"1 $.a  2 $.a.b", `{"a":{"b":1,"c":2}}`, 3, ""},
		{"3 $[1][0]  1 $[1][1]  2 $[0]", `[[0],[1,2],3]`, 1, "$[0] $[1][0]"},
		{"3 $[1][0]  1 $[1][1]  2 $[0]", `[[0],[1,2],3]`, 2, "$[1][0] $[1][1]"},
		{"3 $[1][0]  1 $[1][1]  2 $[0]", `[[0],[1,2],3]`, 0, "$[0] $[1][0] $[1][1]"},
		{"1 $[*][*][*]", `[[[1,2],[3]],[[],[4,5]]]`, 0, "$[0][0][0] $[0][0][1] $[0][1][0] $[1][1][0] $[1][1][1]"},
		{"1 $[10]", `[0,1,2,3,4,5,6,7,8,9,10,11]`, 0, "$[10]"},
		{`1 $["1"]`, `{"0":0,"1":0}`, 0, `$["1"]`},
	} {
		if got := printed(redact.Holes(marked(t, row.marks, row.document), row.clear)); got != row.want {
			t.Errorf("Holes of %s, %s, from %x: %s; wanted %s", row.marks, row.document, row.clear, got, row.want)
		}
	}
	top := redact.Holes(masked(1, list(masked(1, word("x")))), 0)
	if len(top) != 1 || len(top[0]) != 0 {
		t.Errorf("what is hidden at the top: %v", top)
	}
	l := redact.Holes(list(api.Value{Kind: api.Object, Keys: []string{"k", "\xff"}, Kids: []api.Value{word(""), masked(1, word(""))}}), 0)
	if len(l) != 1 || !slices.Equal(l[0], []api.Step{at(0), key("\xff")}) { // a step has nothing but what its kind asks for
		t.Errorf("steps: %v", l)
	}
}

// P9.2: of any values: just the hidden ones that nothing hidden is above, told another way.
func TestHolesOfAnyValues(t *testing.T) {
	most := 0
	for _, v := range anyRow(3000) {
		for _, clear := range clearances {
			var want [][]api.Step
			visible(v, clear, nil, func(node *api.Value, place []api.Step) {
				if node.Mask&^clear != 0 {
					want = append(want, place)
				}
			})
			got := redact.Holes(v, clear)
			if !slices.EqualFunc(got, want, slices.Equal) {
				t.Fatalf("Holes of %v from %x: %v; wanted %v", v, clear, got, want)
			}
			if count := strings.Count(redact.Show(v, clear, "\xff"), "\xff"); count != len(got) {
				t.Fatalf("%d holes of %v from %x, of which %d are shown", len(got), v, clear, count)
			}
			most = max(most, len(got))
		}
	}
	if most < 10 {
		t.Errorf("no more than %d holes were tried", most)
	}
}

// P9.2: places come in the order in which Show has them: each hidden node in turn is the only one that is not cleared.
func TestHolesAreInOrder(t *testing.T) {
	for _, v := range anyRow(500) {
		v = tree.Bare(v)
		count := 0
		v = visible(v, 0, nil, func(node *api.Value, place []api.Step) {
			if len(node.Kids) == 0 && count < 64 {
				node.Mask = 1 << count
				count++
			}
		})
		holes := redact.Holes(v, 0)
		if len(holes) != count {
			t.Fatalf("%d holes of %v; wanted %d", len(holes), v, count)
		}
		last := -1
		for i, hole := range holes {
			one := redact.Holes(v, all&^(1<<i))
			if len(one) != 1 || !slices.Equal(one[0], hole) {
				t.Fatalf("hole %d of %v: %v alone, %v among others", i, v, one, hole)
			}
			place := strings.Index(redact.Show(v, all&^(1<<i), "\xff"), "\xff")
			if place <= last {
				t.Fatalf("hole %d of %v is shown ahead of another", i, v)
			}
			last = place
		}
	}
}

// P9.2: the places are those of policy.Label: a policy that marks them alone hides the same.
func TestHolesArePlacesOfLabel(t *testing.T) {
	tried := 0
	for _, v := range anyRow(500) {
		v = tree.Bare(v)
		var p api.Policy
		for _, pattern := range []string{"$.a", "$[1]", "$**.id", "$**[2]", "$.*[*]", `$**["a b"].*`, "$[0]**[*]"} {
			p.Marks = append(p.Marks, api.Mark{Path: steps(t, pattern), Mask: 1 << len(p.Marks)})
		}
		for _, clear := range []uint64{0, 1, 4, 8, 100} {
			hidden := policy.Label(p, v)
			var q api.Policy
			for _, hole := range redact.Holes(hidden, clear) {
				if policy.MaskAt(p, hole)&^clear == 0 {
					t.Fatalf("%s is not hidden", path.Print(hole))
				}
				q.Marks = append(q.Marks, api.Mark{Path: hole, Mask: 1})
				tried++
			}
			if got, want := redact.View(policy.Label(q, v), 0), redact.View(hidden, clear); got != want {
				t.Fatalf("%s; wanted %s", got, want)
			}
		}
	}
	if tried < 500 {
		t.Errorf("no more than %d holes were tried", tried)
	}
}

// R1: of values that may not be there are holes where Show has them, and no others.
func TestHolesOfWhatMayNotBe(t *testing.T) {
	kids := []api.Value{masked(1, word("x")), list(masked(2, word("y")), word("z"))}
	for _, row := range []struct {
		v    api.Value
		want string
	}{
		{api.Value{}, ""}, {masked(1, api.Value{}), "$"}, {api.Value{Kind: 9, Keys: []string{"a", "b"}, Kids: kids}, ""}, {api.Value{Kind: api.Null, Kids: kids}, ""},
		{api.Value{Kind: api.Object, Kids: kids}, ""}, {api.Value{Kind: api.Object, Keys: []string{"a"}, Kids: kids}, "$.a"}, {api.Value{Kind: api.Object, Keys: []string{"a", "b", "c"}, Kids: kids}, "$.a $.b[0]"}, {api.Value{Kind: api.Object, Keys: []string{"a", "a"}, Kids: kids}, "$.a $.a[0]"},
		{api.Value{Kind: api.List, Keys: []string{"a"}, Kids: kids}, "$[0] $[1][0]"},
	} {
		if got := printed(redact.Holes(row.v, 0)); got != row.want {
			t.Errorf("Holes of %v: %s; wanted %s", row.v, got, row.want)
		}
	}
	for _, v := range none() {
		for _, clear := range clearances {
			if got, want := len(redact.Holes(v, clear)), strings.Count(redact.Show(v, clear, "\x01"), "\x01"); got != want {
				t.Errorf("%d holes of %v; wanted %d", got, v, want)
			}
		}
	}
}

// R7: each place is the caller's own, with the room behind it: what is done of one is not seen by another, by v, or by the next answer.
func TestHolesAreOwn(t *testing.T) {
	wide := make([]api.Value, 20)
	for i := range wide {
		wide[i] = masked(1, number(strconv.Itoa(i)))
	}
	row := append(anyRow(300), chain(9, list(wide...)), list(list(wide...), list(list(wide...)), wide[0]))
	for _, v := range row {
		v = roomy(v)
		was := roomy(v)
		first, second := redact.Holes(v, 2), redact.Holes(v, 2)
		want := printed(first)
		if printed(second) != want {
			t.Fatalf("two answers: %s, %s", want, printed(second))
		}
		for i, place := range first {
			kept := printed(first[i+1:])
			_ = append(place, key("more"), key("more"))
			for k := range place[:cap(place)] {
				place[:cap(place)][k] = key("scribbled")
			}
			if printed(first[i+1:]) != kept {
				t.Fatalf("a place shares memory with another: %s, was %s", printed(first[i+1:]), kept)
			}
		}
		clear(first[:cap(first)])
		if printed(second) != want || printed(redact.Holes(v, 2)) != want {
			t.Fatalf("two answers share memory: %s, was %s", printed(second), want)
		}
		if !identical(v, was) {
			t.Fatalf("changed: %v, was %v", v, was)
		}
	}
}
