package policy_test

import (
	"math"
	"slices"
	"strconv"
	"strings"
	"testing"

	"bowdler/api"
	"bowdler/cats"
	"bowdler/path"
	"bowdler/policy"
)

// good is a policy that may be, of which each part may be spoiled.
func good() api.Policy {
	return api.Policy{
		Cats:  []string{"pii", "geo", "med"},
		Marks: []api.Mark{{Path: []api.Step{key("k")}, Mask: 2}, {Mask: 7}, {Path: []api.Step{{Kind: api.StDeep}, key("id")}, Mask: 5}},
		Token: "#", Fuel: 9, Quota: 3,
	}
}

// A fault is what may be wrong of a policy, and the error that is told of it.
type fault struct {
	name  string
	spoil func(p *api.Policy)
	want  api.Errno
}

// faults are in the order in which P8.1 names them.
func faults() []fault {
	l := []fault{
		{"too many categories", func(p *api.Policy) { p.Cats = append(p.Cats, names(65)...) }, api.ErrBig},
		{"a name that may not be", func(p *api.Policy) { p.Cats = append(p.Cats, "A") }, api.ErrName},
		{"a name two times", func(p *api.Policy) { p.Cats = append(p.Cats, "geo") }, api.ErrName},
		{"too many marks", func(p *api.Policy) {
			p.Marks = append(p.Marks, slices.Repeat([]api.Mark{{Mask: 1}}, 14)...)
		}, api.ErrBig},
	}
	for i := range 3 {
		of := " at " + strconv.Itoa(i)
		l = append(l,
			fault{"a long path" + of, func(p *api.Policy) { p.Marks[i].Path = slices.Repeat([]api.Step{at(0)}, 9) }, api.ErrBig},
			fault{"a path that may not be" + of, func(p *api.Policy) { p.Marks[i].Path = append(slices.Clone(p.Marks[i].Path), api.Step{Kind: 6}) }, api.ErrPath},
			fault{"no mask" + of, func(p *api.Policy) { p.Marks[i].Mask = 0 }, api.ErrPolicy},
			fault{"a strange bit" + of, func(p *api.Policy) { p.Marks[i].Mask |= 8 }, api.ErrPolicy},
		)
	}
	return append(l,
		fault{"a token that is no UTF-8", func(p *api.Policy) { p.Token += "\xff" }, api.ErrPolicy},
		fault{"a long token", func(p *api.Policy) { p.Token += strings.Repeat("a", 24) }, api.ErrPolicy},
		fault{"no fuel", func(p *api.Policy) { p.Fuel = 0 }, api.ErrPolicy},
		fault{"no quota", func(p *api.Policy) { p.Quota = 0 }, api.ErrPolicy},
	)
}

// P8.1: the first fault is told, of all pairs and triples.
func TestMayTellsTheFirst(t *testing.T) {
	if e := policy.May(good()); e != api.OK {
		t.Fatal(e)
	}
	l := faults()
	for i, first := range l {
		for k := i; k < len(l); k++ {
			for m := k; m < len(l); m++ {
				p := good()
				first.spoil(&p)
				if k > i {
					l[k].spoil(&p)
				}
				if m > k {
					l[m].spoil(&p)
				}
				if e := policy.May(p); e != first.want {
					t.Fatalf("%s, %s, %s: %d, not %d", first.name, l[k].name, l[m].name, e, first.want)
				}
			}
		}
	}
}

// P8.1: cats.May's error of Cats, ahead of all else.
func TestMayOfCats(t *testing.T) {
	lists := [][]string{nil, {}, {""}, {"a"}, {"a", "a"}, {"a", "B"}, {"1"}, {"a b"}, {"\xff"}, {strings.Repeat("a", 24)}, {strings.Repeat("a", 25)}, make([]string, 65), slices.Repeat([]string{"a"}, 70)}
	for count := range 70 {
		lists = append(lists, names(count), append(names(count), "c_0"))
	}
	for _, l := range lists {
		if e := policy.May(api.Policy{Cats: l, Fuel: 1, Quota: 1}); e != cats.May(l) {
			t.Errorf("May of %d %.50q: %d", len(l), l, e)
		}
		if e := policy.May(api.Policy{Cats: l, Marks: make([]api.Mark, 17)}); cats.May(l) != api.OK && e != cats.May(l) {
			t.Errorf("May of %d %.50q, and more wrong: %d", len(l), l, e)
		}
	}
}

// P8.1: each bit with each number of categories, at each place of the marks.
func TestMayOfMasks(t *testing.T) {
	for count := range 65 {
		var all uint64
		for range count {
			all = all*2 + 1
		}
		masks := []uint64{0, all, all + 1, math.MaxUint64, all << 1, all >> 1}
		for bit := range 64 {
			masks = append(masks, 1<<bit, 1<<bit|1, all|1<<bit)
		}
		for _, mask := range masks {
			want := api.OK
			if mask == 0 || mask > all {
				want = api.ErrPolicy
			}
			for place := range 3 {
				p := api.Policy{Cats: names(count), Fuel: 1, Quota: 1}
				if count > 0 {
					p.Marks = slices.Repeat([]api.Mark{{Mask: 1}}, place)
				}
				p.Marks = append(p.Marks, api.Mark{Mask: mask})
				if e := policy.May(p); e != want {
					t.Fatalf("May with %d categories of the mask %x at %d: %d", count, mask, place, e)
				}
			}
		}
	}
}

// P8.1: how many marks there are is asked ahead of what each is.
func TestMayOfHowManyMarks(t *testing.T) {
	for count := range 40 {
		for _, row := range []struct {
			mark api.Mark
			want api.Errno
		}{{api.Mark{Mask: 1}, api.OK}, {api.Mark{}, api.ErrPolicy}, {api.Mark{Mask: 2}, api.ErrPolicy}, {api.Mark{Path: make([]api.Step, 3)}, api.ErrPath}} {
			want := row.want
			switch {
			case count > 16:
				want = api.ErrBig
			case count == 0:
				want = api.OK
			}
			p := api.Policy{Cats: []string{"a"}, Marks: slices.Repeat([]api.Mark{row.mark}, count), Fuel: 1, Quota: 1}
			if e := policy.May(p); e != want {
				t.Errorf("May of %d %v: %d", count, row.mark, e)
			}
		}
	}
}

// P8.1: path.May's error of a mark's Path, ahead of what its mask is.
func TestMayOfPaths(t *testing.T) {
	long := strings.Repeat("a", 25)
	for _, l := range [][]api.Step{nil, {}, {{}}, {{Kind: 6}}, {key(long[1:])}, {key(long)}, {key("\xff")}, {at(9999)}, {at(10000)}, {at(-1)}, {{Kind: api.StAny, N: 1}}, {{Kind: api.StAnyKey, Key: "a"}}, {{Kind: api.StDeep}}, make([]api.Step, 8), make([]api.Step, 9), slices.Repeat([]api.Step{at(1)}, 8), slices.Repeat([]api.Step{at(1)}, 9)} {
		for place := range 16 {
			p := api.Policy{Cats: []string{"a"}, Marks: slices.Repeat([]api.Mark{{Mask: 1}}, 16), Fuel: 1, Quota: 1}
			p.Marks[place].Path = l
			if e := policy.May(p); e != path.May(l) {
				t.Errorf("May with %.40v at %d: %d", l, place, e)
			}
			p.Marks[place].Mask = 0
			if e := policy.May(p); path.May(l) != api.OK && e != path.May(l) || e == api.OK {
				t.Errorf("May with %.40v at %d, and no mask: %d", l, place, e)
			}
		}
	}
}

// P8.1: tokens of all lengths, of runes of each size, and such as are no UTF-8.
func TestMayOfTokens(t *testing.T) {
	for _, one := range []string{"a", "\x00", "\n", "\"", " ", "é", "€", "\U0001f600"} {
		for count := range 40 {
			token := strings.Repeat(one, count)
			want := api.OK
			if len(token) > 24 {
				want = api.ErrPolicy
			}
			if e := policy.May(api.Policy{Token: token, Fuel: 1, Quota: 1}); e != want {
				t.Errorf("May with the token %q: %d", token, e)
			}
			for _, wrong := range []string{"\xff", "\xc3", "\xed\xa0\x80", "\xf4\x90\x80\x80", "\x80"} {
				for _, token := range []string{token + wrong, wrong + token, token + wrong + token} {
					if e := policy.May(api.Policy{Token: token, Fuel: 1, Quota: 1}); e != api.ErrPolicy {
						t.Errorf("May with the token %q: %d", token, e)
					}
				}
			}
		}
	}
}

// P8.1: the edges of Fuel and Quota, each with each.
func TestMayOfFuel(t *testing.T) {
	edges := []int{math.MinInt, -1 << 32, -100000, -1, 0, 1, 2, 99999, 100000, 100001, 1 << 17, 1<<32 + 1, 1<<63 - 1}
	for _, fuel := range edges {
		for _, quota := range edges {
			want := api.ErrPolicy
			if 0 < fuel && fuel < 100001 && 0 < quota && quota < 100001 {
				want = api.OK
			}
			if e := policy.May(api.Policy{Fuel: fuel, Quota: quota}); e != want {
				t.Errorf("May with fuel %d and quota %d: %d", fuel, quota, e)
			}
		}
	}
}

// R1 and R7: any policies are asked, and stay as they are, with what lies behind the ends of their lists.
func TestMayChangesNothing(t *testing.T) {
	for _, p := range append(anyPolicies(50), oddPolicies()...) {
		p.Cats = append(slices.Clone(p.Cats), "behind")[:len(p.Cats)]
		p.Marks = append(slices.Clone(p.Marks), api.Mark{Mask: 77})[:len(p.Marks)]
		was := api.Policy{Cats: slices.Clone(p.Cats), Token: p.Token, Fuel: p.Fuel, Quota: p.Quota}
		for i, mark := range p.Marks {
			p.Marks[i].Path = append(slices.Clone(mark.Path), key("behind"))[:len(mark.Path)]
			was.Marks = append(was.Marks, api.Mark{Path: slices.Clone(mark.Path), Mask: mark.Mask})
		}
		for range 2 {
			policy.May(p)
			policy.Print(p)
			policy.MaskAt(p, []api.Step{key("a"), at(0)})
			policy.Label(p, api.Value{Kind: api.List, Kids: make([]api.Value, 3)})
		}
		if !samePolicy(p, was) || p.Cats[:len(p.Cats)+1][len(p.Cats)] != "behind" || p.Marks[:len(p.Marks)+1][len(p.Marks)].Mask != 77 {
			t.Errorf("changed: %v, was %v", p, was)
		}
		for _, mark := range p.Marks {
			if mark.Path[:len(mark.Path)+1][len(mark.Path)] != key("behind") {
				t.Errorf("changed behind a path: %v", p)
			}
		}
	}
}
