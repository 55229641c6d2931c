package redact_test

import (
	"math/bits"
	"slices"
	"strconv"
	"strings"
	"testing"

	"bowdler/api"
	"bowdler/redact"
	"bowdler/text"
)

// P9.1: each bit of a mask against each of a clearance.
func TestHidden(t *testing.T) {
	for bit := range 64 {
		one := uint64(1) << bit
		for other := range 64 {
			if hidden := redact.Hidden(api.Value{Kind: api.Null, Mask: one}, 1<<other); hidden != (bit != other) {
				t.Errorf("Hidden of category %d from one cleared for %d: %v", bit, other, hidden)
			}
		}
		for _, row := range []struct {
			mask, clear uint64
			want        bool
		}{
			{0, one, false}, {one, 0, true}, {one, all, false}, {one, all &^ one, true}, {all, all &^ one, true}, {all &^ one, all &^ one, false}, {one | 1 | 1<<63, 1 | 1<<63, bits.OnesCount64(one|1|1<<63) > 2}, {all, one, true},
		} {
			if hidden := redact.Hidden(api.Value{Kind: api.List, Mask: row.mask}, row.clear); hidden != row.want {
				t.Errorf("Hidden of %x from %x: %v", row.mask, row.clear, hidden)
			}
		}
	}
	if redact.Hidden(api.Value{}, 0) || redact.Hidden(api.Value{Mask: all}, all) || !redact.Hidden(api.Value{Mask: all}, 0) {
		t.Error("none, and all")
	}
}

// P9.1: it is v itself that is asked, whatever else it has, and whatever is above or below it.
func TestHiddenIsOfItself(t *testing.T) {
	for _, v := range append(anyRow(200), none()...) {
		for _, clear := range clearances {
			for _, mask := range []uint64{0, 1, 6, 1 << 63, all} {
				if hidden := redact.Hidden(masked(mask, v), clear); hidden != (mask&^clear != 0) {
					t.Fatalf("Hidden of %v, marked %x, from %x: %v", v, mask, clear, hidden)
				}
			}
		}
	}
	v := list(masked(1, list(masked(2, word("x")))))
	if redact.Hidden(v, 0) || !redact.Hidden(v.Kids[0], 2) || redact.Hidden(v.Kids[0], 1) {
		t.Error("another's mask is asked")
	}
}

// P9.1: what is written out here was told by hand.
func TestView(t *testing.T) {
	for _, row := range []struct {
		marks, document string
		clear           uint64
		want            string
	}{
		{"1 $.b", `{"a":1,"b":[2]}`, 0, `{"a":1,"b":#}`}, // the document's own
		{"1 $.b", `{"a":1,"b":[2]}`, 1, `{"a":1,"b":[2]}`},
		{"1 $.b", `{"a":1,"b":[2]}`, all &^ 1, `{"a":1,"b":#}`},
		{"", `{"a":1,"b":[2]}`, 0, `{"a":1,"b":[2]}`},
		{"1 $", `{"a":1,"b":[2]}`, 0, `#`},
		{"1 $", `null`, 2, `#`},
		{"1 $", `null`, 3, `null`},
		{"3 $", `"x"`, 1, `#`},
		{"3 $", `"x"`, 2, `#`},
		{"3 $", `"x"`, 3, `"x"`},
		{"1 $**", `[[1],2]`, 0, `#`},
		{"1 $[*]", `[[1],2,{}]`, 0, `[#,#,#]`},
		{"1 $.*", `{"a":{"b":1},"":"","c d":[]}`, 0, `{"a":#,"":#,"c d":#}`},
		{"1 $.a  2 $.a.b", `{"a":{"b":1}}`, 0, `{"a":#}`},
		{"1 $.a  2 $.a.b", `{"a":{"b":1}}`, 2, `{"a":#}`},
		{"1 $.a  2 $.a.b", `{"a":{"b":1}}`, 1, `{"a":{"b":#}}`},
		{"1 $.a  2 $.a.b", `{"a":{"b":1}}`, 3, `{"a":{"b":1}}`},
		{"1 $**.id", `[{"id":{"id":1},"x":{"id":[2]}},"id"]`, 0, `[{"id":#,"x":{"id":#}},"id"]`},
		{"1 $[0]  1 $[2]", `[1,2,3,4]`, 0, `[#,2,#,4]`},
		{"1 $[1]  1 $[3]", `[1,2,3,4]`, 0, `[1,#,3,#]`},
		{"1 $[0]", `[1]`, 0, `[#]`},
		{"1 $.a", `{"a":1}`, 0, `{"a":#}`},
		{"1 $.a", `{"b":{"a":1},"A":2}`, 0, `{"b":{"a":1},"A":2}`},
		{"1 $[*]", `[]`, 0, `[]`},
		{"1 $.*", `{}`, 0, `{}`},
		{"4 $**[1]", `{"n":[[],[-2.50,true],{"\n\"":[false,null]}]}`, 3, `{"n":[[],#,{"\n\"":[false,#]}]}`},
		{"9223372036854775808 $[1]", `[1,2]`, all >> 1, `[1,#]`},
		{"1 $.x", `{"a":"#","#":["#"],"x":0}`, 0, `{"a":"#","#":["#"],"x":#}`},
	} {
		v := marked(t, row.marks, row.document)
		if got := redact.View(v, row.clear); got != row.want {
			t.Errorf("View of %s, %s, from %x: %s; wanted %s", row.marks, row.document, row.clear, got, row.want)
		}
		for _, hole := range []string{"", "#", `"#"`, "null", "##", ",", "é", "\xff\x00\n", strings.Repeat("hole", 50)} {
			// The rows have the sign in no other place, but in quotes.
			want := strings.ReplaceAll(row.want, `"#"`, "\x01")
			want = strings.ReplaceAll(strings.ReplaceAll(want, "#", hole), "\x01", `"#"`)
			if got := redact.Show(v, row.clear, hole); got != want {
				t.Errorf("Show of %s, %s, from %x with %q: %s; wanted %s", row.marks, row.document, row.clear, hole, got, want)
			}
		}
	}
}

// P9.1: a poison is seen as text.Print writes it, or it is hidden.
func TestViewOfPoison(t *testing.T) {
	poison := api.Value{Kind: api.Poison, Code: api.ErrSecret}
	if got := redact.View(list(poison, masked(1, poison), masked(2, poison)), 2); got != "[!44,#,!44]" {
		t.Error(got)
	}
	if got := redact.View(masked(1, poison), 0); got != "#" {
		t.Error(got)
	}
}

// shown is Show told another way: a sign that nothing else has is put in for each hidden node, and written over in what text.Print tells.
func shown(v api.Value, clear uint64, hole string) string {
	const sign = "here is a hole"
	changed := visible(v, clear, nil, func(node *api.Value, _ []api.Step) {
		if node.Mask&^clear != 0 {
			*node = word(sign)
		}
	})
	return strings.ReplaceAll(text.Print(changed), `"`+sign+`"`, hole)
}

// P9.1: of any values, for any clearances, with any holes.
func TestShowOfAnyValues(t *testing.T) {
	holes := 0
	for i, v := range anyRow(3000) {
		for _, clear := range clearances {
			hole := append(someWords(), `"#"`, "\xff")[i%21]
			want := shown(v, clear, hole)
			if got := redact.Show(v, clear, hole); got != want {
				t.Fatalf("Show of %v from %x with %q: %s; wanted %s", v, clear, hole, got, want)
			}
			view := redact.View(v, clear)
			if view != shown(v, clear, "#") || view != redact.Show(v, clear, "#") {
				t.Fatalf("View of %v from %x: %s", v, clear, view)
			}
			if view != text.Print(v) {
				holes++
			}
		}
	}
	if holes < 1000 {
		t.Errorf("no more than %d values have holes", holes)
	}
}

// P9.3: for a clearance of all categories nothing is hidden, and where nothing is marked nothing is, for any.
func TestShowWhereNothingIsHidden(t *testing.T) {
	for _, v := range append(anyRow(500), none()...) {
		want := text.Print(v)
		if got := redact.Show(v, all, "hole"); got != want || redact.View(v, all) != want {
			t.Fatalf("Show of %v: %s; wanted %s", v, got, want)
		}
		if redact.Hidden(v, all) || len(redact.Holes(v, all)) != 0 {
			t.Fatalf("hidden: %v", v)
		}
	}
	for _, s := range []string{"null", `{"a":[1,{"b":"#"}],"":-0.5}`, "[[[]]]"} {
		for _, clear := range clearances {
			if got := redact.View(document(t, s), clear); got != s {
				t.Errorf("View of %s from %x: %s", s, clear, got)
			}
		}
	}
}

// R1: of values that may not be Show is text.Print of what is not hidden, too: what that does not write is not shown.
func TestShowOfWhatMayNotBe(t *testing.T) {
	kids := []api.Value{masked(1, word("x")), list(masked(2, word("y")), word("z"))}
	for _, row := range []struct {
		v    api.Value
		want string
	}{
		{api.Value{}, ""}, {api.Value{Kind: 9, Keys: []string{"a", "b"}, Kids: kids}, ""}, {api.Value{Kind: api.Null, Kids: kids}, "null"}, {api.Value{Kind: api.Text, Text: "t", Keys: []string{"a"}, Kids: kids}, `"t"`},
		{api.Value{Kind: api.Object, Kids: kids}, "{}"}, {api.Value{Kind: api.Object, Keys: []string{"a"}, Kids: kids}, `{"a":#}`}, {api.Value{Kind: api.Object, Keys: []string{"a", "b", "c"}, Kids: kids}, `{"a":#,"b":[#,"z"]}`}, {api.Value{Kind: api.Object, Keys: []string{"a", "a"}, Kids: kids}, `{"a":#,"a":[#,"z"]}`},
		{api.Value{Kind: api.List, Keys: []string{"a"}, Kids: kids}, `[#,[#,"z"]]`}, {list(masked(1, api.Value{}), api.Value{}), "[#,]"}, {masked(1, api.Value{}), "#"}, {masked(1, api.Value{Kind: -7, Kids: kids}), "#"},
	} {
		if got := redact.View(row.v, 0); got != row.want {
			t.Errorf("View of %v: %s; wanted %s", row.v, got, row.want)
		}
	}
}

// R6 and R7: what is handed in stays as it is, with what lies behind its lists, and each answer is the same again.
func TestShowChangesNothing(t *testing.T) {
	for _, v := range append(anyRow(300), none()...) {
		v = roomy(v)
		was := roomy(v)
		for _, clear := range clearances {
			first := redact.Show(v, clear, "hole")
			if again := redact.Show(v, clear, "hole"); again != first {
				t.Fatalf("another answer: %s, %s", first, again)
			}
			redact.Hidden(v, clear)
			redact.View(v, clear)
			redact.Holes(v, clear)
			redact.Alike(v, was, clear)
		}
		if !identical(v, was) {
			t.Fatalf("changed: %v, was %v", v, was)
		}
	}
}

// R1: values as deep as the document allows, and wide ones.
func TestGreatValues(t *testing.T) {
	const levels = 1 << 16
	deep := chain(levels, masked(1, word("x")))
	want := strings.Repeat("[", levels-1) + "#" + strings.Repeat("]", levels-1)
	if got := redact.View(deep, 0); got != want {
		t.Errorf("View of %d levels has %d bytes", levels, len(got))
	}
	if l := redact.Holes(deep, 2); len(l) != 1 || !slices.Equal(l[0], slices.Repeat([]api.Step{at(0)}, levels-1)) {
		t.Errorf("%d holes in %d levels", len(l), levels)
	}
	if !redact.Alike(deep, chain(levels, masked(1, list())), 0) || redact.Alike(deep, chain(levels, masked(1, list())), 1) || redact.Alike(deep, chain(levels-1, masked(1, word("x"))), 0) {
		t.Error("Alike of so many levels")
	}
	wide := api.Value{Kind: api.Object}
	for i := range 1 << 15 {
		wide.Keys = append(wide.Keys, strconv.Itoa(i))
		wide.Kids = append(wide.Kids, masked(uint64(i%2), number("7")))
	}
	l := redact.Holes(wide, 0)
	if got := redact.View(wide, 0); !strings.HasPrefix(got, `{"0":7,"1":#,"2":7,`) || !strings.HasSuffix(got, `,"32767":#}`) || strings.Count(got, "#") != 1<<14 {
		t.Errorf("View of many kids has %d bytes", len(got))
	}
	for i, hole := range l {
		if !slices.Equal(hole, []api.Step{key(strconv.Itoa(2*i + 1))}) {
			t.Fatalf("hole %d: %v", i, hole)
		}
	}
	if len(l) != 1<<14 || !redact.Alike(wide, wide, 0) || !redact.Alike(wide, wide, 1) {
		t.Errorf("%d holes", len(l))
	}
}
