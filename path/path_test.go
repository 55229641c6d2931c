package path_test

import (
	"slices"
	"strings"
	"testing"
	"unicode/utf8"

	"bowdler/api"
	"bowdler/path"
)

func key(s string) api.Step { return api.Step{Kind: api.StKey, Key: s} }

func at(n int) api.Step { return api.Step{Kind: api.StAt, N: n} }

var (
	anyKey = api.Step{Kind: api.StAnyKey}
	anyAt  = api.Step{Kind: api.StAny}
	deep   = api.Step{Kind: api.StDeep}
)

// rows are all rows of at most count of these steps.
func rows(count int, steps ...api.Step) [][]api.Step {
	all := [][]api.Step{nil}
	last := all
	for range count {
		var longer [][]api.Step
		for _, l := range last {
			for _, step := range steps {
				longer = append(longer, append(slices.Clone(l), step))
			}
		}
		all = append(all, longer...)
		last = longer
	}
	return all
}

// mayStep is P7.1's of one step, written another way.
func mayStep(s api.Step) bool {
	switch {
	case s.Kind < 1 || s.Kind > 5:
		return false
	case s.Kind != 1 && s.Key != "":
		return false
	case s.Kind != 2 && s.N != 0:
		return false
	}
	return utf8.ValidString(s.Key) && len(s.Key) <= 24 && s.N >= 0 && s.N <= 9999
}

// P7.1: steps of all kinds with all sorts of keys and numbers, at each place of rows of each length.
func TestMay(t *testing.T) {
	keys := []string{"", "a", "A b", "\"\\\n", "\x00", "é", "\U0010ffff", "\xff", "a\xc3", "\xed\xa0\x80", strings.Repeat("a", 24), strings.Repeat("a", 25), strings.Repeat("é", 12), strings.Repeat("é", 12) + "a", strings.Repeat("a", 1<<16)}
	numbers := []int{0, 1, 9, 9998, 9999, 10000, -1, -9999, 1 << 62, -1 << 63, 1<<63 - 1, 1 << 32}
	for _, kind := range []int{-1 << 63, -5, -1, 0, 1, 2, 3, 4, 5, 6, 7, 8, 257, 1<<63 - 1} {
		for _, k := range keys {
			for _, n := range numbers {
				step := api.Step{Kind: kind, Key: k, N: n}
				want := api.OK
				if !mayStep(step) {
					want = api.ErrPath
				}
				for _, length := range []int{1, 2, 7, 8, 9} {
					if length == 9 {
						want = api.ErrBig
					}
					for _, place := range []int{0, length / 2, length - 1} {
						l := slices.Repeat([]api.Step{key("a")}, length)
						l[place] = step
						if e := path.May(l); e != want {
							t.Fatalf("May of %d, %.40v at %d: %d", length, step, place, e)
						}
					}
				}
			}
		}
	}
}

// P7.1: how many steps there are is asked first.
func TestMayOfHowMany(t *testing.T) {
	for count := range 20 {
		for _, step := range []api.Step{key("a"), at(0), anyKey, anyAt, deep, {}, {Kind: 6}} {
			want := api.OK
			switch {
			case count > 8:
				want = api.ErrBig
			case count > 0 && !mayStep(step):
				want = api.ErrPath
			}
			if e := path.May(slices.Repeat([]api.Step{step}, count)); e != want {
				t.Errorf("May of %d %v: %d", count, step, e)
			}
		}
	}
}

// P7.1: what is written out here was told by hand.
func TestMayByHand(t *testing.T) {
	for _, row := range []struct {
		l    []api.Step
		want api.Errno
	}{
		{nil, api.OK},
		{[]api.Step{}, api.OK},
		{[]api.Step{key(""), at(0), anyKey, anyAt, deep, deep, at(9999), key(strings.Repeat("x", 24))}, api.OK},
		{[]api.Step{key(strings.Repeat("x", 25))}, api.ErrPath},
		{[]api.Step{at(10000)}, api.ErrPath},
		{[]api.Step{at(-1)}, api.ErrPath},
		{[]api.Step{{Kind: api.StKey, Key: "a", N: 1}}, api.ErrPath},
		{[]api.Step{{Kind: api.StAt, Key: "a", N: 1}}, api.ErrPath},
		{[]api.Step{{Kind: api.StAnyKey, Key: "a"}}, api.ErrPath},
		{[]api.Step{{Kind: api.StAny, N: 1}}, api.ErrPath},
		{[]api.Step{{Kind: api.StDeep, N: -1}}, api.ErrPath},
		{[]api.Step{key("a"), {}}, api.ErrPath},
		{[]api.Step{{Kind: 6}, key("a")}, api.ErrPath},
		{make([]api.Step, 9), api.ErrBig},
	} {
		if e := path.May(row.l); e != row.want {
			t.Errorf("May(%v): %d", row.l, e)
		}
	}
}

// leads is P7.3's, as its words say it: for each StDeep all rows of steps are tried.
func leads(l, place []api.Step) bool {
	if len(l) == 0 {
		return len(place) == 0
	}
	if l[0].Kind == api.StDeep {
		for count := range len(place) + 1 {
			if leads(l[1:], place[count:]) {
				return true
			}
		}
		return false
	}
	if len(place) == 0 {
		return false
	}
	var one bool
	switch l[0].Kind {
	case api.StKey:
		one = place[0].Kind == api.StKey && place[0].Key == l[0].Key
	case api.StAt:
		one = place[0].Kind == api.StAt && place[0].N == l[0].N
	case api.StAnyKey:
		one = place[0].Kind == api.StKey
	case api.StAny:
		one = place[0].Kind == api.StAt
	}
	return one && leads(l[1:], place[1:])
}

// P7.3: all short patterns and places.
func TestMatch(t *testing.T) {
	places := rows(5, key("a"), key("b"), at(0), at(1))
	for _, l := range rows(4, key("a"), key("b"), at(0), anyKey, anyAt, deep) {
		for _, place := range places {
			if want := leads(l, place); path.Match(l, place) != want {
				t.Fatalf("Match(%s, %s): %v", path.Print(l), path.Print(place), !want)
			}
		}
	}
}

// P7.3: patterns in which a StDeep must let go of what it led to first.
func TestMatchWithDeeps(t *testing.T) {
	places := rows(9, key("a"), at(0))
	for _, l := range rows(6, key("a"), at(0), deep) {
		for _, place := range places {
			if want := leads(l, place); path.Match(l, place) != want {
				t.Fatalf("Match(%s, %s): %v", path.Print(l), path.Print(place), !want)
			}
		}
	}
}

// P7.3: what is written out here was told by hand.
func TestMatchByHand(t *testing.T) {
	for _, row := range []struct {
		l, at []api.Step
		want  bool
	}{
		{nil, nil, true},
		{nil, []api.Step{key("")}, false},
		{[]api.Step{key("")}, nil, false},
		{[]api.Step{key("")}, []api.Step{key("")}, true},
		{[]api.Step{key("")}, []api.Step{at(0)}, false},
		{[]api.Step{at(0)}, []api.Step{key("")}, false},
		{[]api.Step{key("0")}, []api.Step{at(0)}, false},
		{[]api.Step{key("a")}, []api.Step{key("A")}, false},
		{[]api.Step{key("a")}, []api.Step{key("a ")}, false},
		{[]api.Step{at(2)}, []api.Step{at(2)}, true},
		{[]api.Step{at(2)}, []api.Step{at(12)}, false},
		{[]api.Step{anyKey}, []api.Step{key("x y")}, true},
		{[]api.Step{anyKey}, []api.Step{at(0)}, false},
		{[]api.Step{anyAt}, []api.Step{at(9999)}, true},
		{[]api.Step{anyAt}, []api.Step{key("a")}, false},
		{[]api.Step{anyKey}, nil, false},
		{[]api.Step{anyAt}, nil, false},
		{[]api.Step{deep}, nil, true},
		{[]api.Step{deep, deep, deep}, nil, true},
		{[]api.Step{deep, anyKey}, nil, false},
		{[]api.Step{deep, key("id")}, []api.Step{key("a"), at(2), key("id")}, true},
		{[]api.Step{key("a"), anyAt}, []api.Step{key("a"), at(2), key("id")}, false},
		{[]api.Step{key("a")}, []api.Step{key("a"), key("a")}, false},
		{[]api.Step{key("a"), key("a")}, []api.Step{key("a")}, false},
		{[]api.Step{key("b"), key("a")}, []api.Step{key("a"), key("b")}, false},
		{[]api.Step{key("a"), deep}, []api.Step{key("a")}, true},
		{[]api.Step{deep, key("a")}, []api.Step{key("a"), at(0)}, false},
		{[]api.Step{deep, key("a"), at(0)}, []api.Step{key("a"), key("a"), at(0)}, true},
		{[]api.Step{key("a"), deep, key("a")}, []api.Step{key("a")}, false},
	} {
		if path.Match(row.l, row.at) != row.want {
			t.Errorf("Match(%s, %s): %v", path.Print(row.l), path.Print(row.at), !row.want)
		}
	}
}

// P7.3 names a step's Key or N alone: what else a step has does not count. A kind that is none leads nowhere, and nothing but a StDeep leads to what is no step of a place.
func TestMatchOfWhatMayNot(t *testing.T) {
	odd := func(kind int) api.Step { return api.Step{Kind: kind, Key: "a", N: 3} }
	for _, row := range []struct {
		l, at api.Step
		want  bool
	}{
		{odd(api.StKey), key("a"), true},
		{key("a"), odd(api.StKey), true},
		{odd(api.StAt), at(3), true},
		{at(3), odd(api.StAt), true},
		{odd(api.StAnyKey), key("b"), true},
		{odd(api.StAny), at(0), true},
		{odd(api.StDeep), at(0), true},
		{odd(api.StDeep), odd(9), true},
		{key("\xff"), key("\xff"), true},
		{key("\xff"), key("\xfe"), false},
		{at(-1), at(-1), true},
		{api.Step{}, api.Step{}, false},
		{api.Step{}, key(""), false},
		{odd(6), odd(6), false},
		{odd(-1), odd(-1), false},
		{anyKey, anyKey, false},
		{anyAt, anyAt, false},
		{anyKey, deep, false},
		{anyKey, api.Step{}, false},
		{anyAt, odd(6), false},
		{key("a"), anyKey, false},
		{at(0), anyAt, false},
		{key("a"), deep, false},
		{key("a"), odd(6), false},
	} {
		if path.Match([]api.Step{row.l}, []api.Step{row.at}) != row.want {
			t.Errorf("Match(%v, %v): %v", row.l, row.at, !row.want)
		}
	}
}

// R1: rows of any length end, also such of which there are more ways to go than can be tried.
func TestMatchOfLongRows(t *testing.T) {
	long := slices.Repeat([]api.Step{key("a")}, 3000)
	many := slices.Repeat([]api.Step{deep, key("a")}, 1000)
	for _, row := range []struct {
		l    []api.Step
		want bool
	}{
		{many, true},
		{append(slices.Clone(many), key("b")), false},
		{append(slices.Clone(many), deep, at(0), deep), false},
		{slices.Repeat([]api.Step{deep}, 5000), true},
		{long, true},
		{long[1:], false},
		{append(slices.Clone(long), key("a")), false},
		{append(slices.Clone(long), deep), true},
		{append([]api.Step{deep}, long...), true},
		{append([]api.Step{deep}, long[1:]...), true},
	} {
		if path.Match(row.l, long) != row.want {
			t.Errorf("Match of %d and %d: %v", len(row.l), len(long), !row.want)
		}
	}
}

// P7.4: a place leads to itself and to no other one, a StDeep to all.
func TestMatchOfPlaces(t *testing.T) {
	places := rows(3, key(""), key("a"), key("0"), at(0), at(1))
	for i, l := range places {
		for j, place := range places {
			if path.Match(l, place) != (i == j) {
				t.Fatalf("Match(%s, %s): %v", path.Print(l), path.Print(place), i != j)
			}
		}
		if !path.Match([]api.Step{deep}, l) || !path.Match([]api.Step{deep, deep}, l) {
			t.Errorf("$** does not lead to %s", path.Print(l))
		}
	}
}

// R6 and R7: what is handed in stays as it is, and so does the room behind it; the same is told twice.
func TestNothingIsChanged(t *testing.T) {
	room := []api.Step{deep, key("a"), at(1), key("B"), {Kind: 9, Key: "x", N: 7}, deep}
	was := slices.Clone(room)
	for range 2 {
		for end := range len(room) + 1 {
			l := room[:end]
			path.May(l)
			path.Print(l)
			path.Match(l, room[1:end/2+1])
			path.Match(room[end/2:end], l)
			if end <= 4 && !path.Match(l, l[min(1, end):]) {
				t.Errorf("%d steps do not lead to those behind the first", end)
			}
			if !slices.Equal(room, was) {
				t.Fatalf("changed by %d steps: %v", end, room)
			}
		}
	}
}
