package policy_test

import (
	"fmt"
	"math"
	"reflect"
	"regexp"
	"slices"
	"strconv"
	"strings"
	"testing"

	"bowdler/api"
	"bowdler/path"
	"bowdler/policy"
	"bowdler/quote"
)

// printed is P8.2's, written another way.
func printed(p api.Policy) string {
	s := strings.Join(append([]string{"cats"}, p.Cats...), " ") + "\n"
	for _, mark := range p.Marks {
		s += "mark"
		for place, name := range p.Cats {
			if uint64(math.Pow(2, float64(place)))&mark.Mask != 0 {
				s += " " + name
			}
		}
		s += " " + path.Print(mark.Path) + "\n"
	}
	return s + fmt.Sprintf("token %s\nfuel %d\nquota %d\n", quote.Quote(p.Token), p.Fuel, p.Quota)
}

// whole is P8.2's of all lines, markLine of a mark's, but for what each part may be.
var (
	whole    = regexp.MustCompile(`\Acats((?: [a-z][a-z0-9_]{0,23})*)\n((?:mark .*\n)*)token ("(?:[^"\\\n]|\\.)*")\nfuel ([1-9][0-9]{0,5})\nquota ([1-9][0-9]{0,5})\n\z`)
	markLine = regexp.MustCompile(`\Amark ([a-z0-9_ ]*[a-z0-9_]) (\$.*)\z`)
)

// parsed is P8.2's, written another way; ok tells whether there is such a policy.
func parsed(s string) (p api.Policy, ok bool) {
	m := whole.FindStringSubmatch(s)
	if m == nil {
		return p, false
	}
	p.Cats = strings.Fields(m[1])
	for _, line := range strings.Split(m[2], "\n") {
		if line == "" {
			continue
		}
		mark, ok := parsedMark(p.Cats, line)
		if !ok {
			return p, false
		}
		p.Marks = append(p.Marks, mark)
	}
	token, _, e := quote.Unquote(m[3])
	p.Token = token
	p.Fuel, _ = strconv.Atoi(m[4])
	p.Quota, _ = strconv.Atoi(m[5])
	known := map[string]bool{}
	for _, name := range p.Cats {
		known[name] = true
	}
	return p, e == api.OK && quote.Quote(token) == m[3] && len(token) <= 24 && p.Fuel <= 100000 && p.Quota <= 100000 && len(known) == len(p.Cats) && len(p.Cats) <= 64 && len(p.Marks) <= 16
}

func parsedMark(names []string, line string) (mark api.Mark, ok bool) {
	m := markLine.FindStringSubmatch(line)
	if m == nil {
		return mark, false
	}
	last := -1
	for _, name := range strings.Split(m[1], " ") {
		place := slices.Index(names, name)
		if place <= last || place >= 64 {
			return mark, false
		}
		last = place
		mark.Mask += uint64(1) << place
	}
	l, e := path.Parse(m[2])
	mark.Path = l
	return mark, e == api.OK
}

// checkParse holds what Parse tells of s against what the other reader does.
func checkParse(t *testing.T, s string) {
	t.Helper()
	p, e := policy.Parse(s)
	want, ok := parsed(s)
	if !ok {
		isNone(t, s)
		return
	}
	if e != api.OK || !samePolicy(p, want) {
		t.Fatalf("Parse(%.300q): %v, %d; wanted %v", s, p, e, want)
	}
	if policy.May(p) != api.OK || policy.Print(p) != s {
		t.Fatalf("Parse(%.300q): May %d, Print %q", s, policy.May(p), policy.Print(p))
	}
}

// isNone holds that s is refused, and that nothing is told beside the error.
func isNone(t *testing.T, s string) {
	t.Helper()
	if p, e := policy.Parse(s); e != api.ErrPolicy || !reflect.DeepEqual(p, api.Policy{}) {
		t.Fatalf("Parse(%.300q): %v, %d", s, p, e)
	}
}

// P8.2 and P8.4: what is written out here was told by hand.
func TestPrintAndParseByHand(t *testing.T) {
	most := slices.Repeat([]api.Mark{{Path: []api.Step{at(9999)}, Mask: 1 << 63}}, 16)
	for want, p := range map[string]api.Policy{
		"cats\ntoken \"\"\nfuel 1\nquota 1\n":                                                                                                          {Fuel: 1, Quota: 1},
		"cats a\ntoken \"\"\nfuel 100000\nquota 10\n":                                                                                                  {Cats: []string{"a"}, Fuel: 100000, Quota: 10},
		"cats a b\nmark b $.k\ntoken \"#\"\nfuel 9\nquota 3\n":                                                                                         {Cats: []string{"a", "b"}, Marks: []api.Mark{{Path: []api.Step{key("k")}, Mask: 2}}, Token: "#", Fuel: 9, Quota: 3},
		"cats z a m\nmark z m $\nmark z a m $**\ntoken \"#\"\nfuel 9\nquota 3\n":                                                                       {Cats: []string{"z", "a", "m"}, Marks: []api.Mark{{Mask: 5}, {Path: []api.Step{{Kind: api.StDeep}}, Mask: 7}}, Token: "#", Fuel: 9, Quota: 3},
		"cats a\nmark a $.k\nmark a $.k\ntoken \"\\n\\\"\\\\\"\nfuel 9\nquota 3\n":                                                                     {Cats: []string{"a"}, Marks: []api.Mark{{Path: []api.Step{key("k")}, Mask: 1}, {Path: []api.Step{key("k")}, Mask: 1}}, Token: "\n\"\\", Fuel: 9, Quota: 3},
		"cats a\nmark a $[\" $.b\"][\"\\n\"]\ntoken \"\nfuel 1\"\nfuel 9\nquota 3\n":                                                                   {},
		"cats a\nmark a $[\" $.b\"][\"\\n\"]\ntoken \" fuel 1\"\nfuel 9\nquota 3\n":                                                                    {Cats: []string{"a"}, Marks: []api.Mark{{Path: []api.Step{key(" $.b"), key("\n")}, Mask: 1}}, Token: " fuel 1", Fuel: 9, Quota: 3},
		"cats mark token\nmark mark token $.mark\ntoken \"mark\"\nfuel 9\nquota 9\n":                                                                   {Cats: []string{"mark", "token"}, Marks: []api.Mark{{Path: []api.Step{key("mark")}, Mask: 3}}, Token: "mark", Fuel: 9, Quota: 9},
		"cats fuel cats quota\nmark cats quota $\ntoken \"é\"\nfuel 100\nquota 100\n":                                                                  {Cats: []string{"fuel", "cats", "quota"}, Marks: []api.Mark{{Mask: 6}}, Token: "é", Fuel: 100, Quota: 100},
		"cats " + strings.Join(names(64), " ") + "\n" + strings.Repeat("mark c_63 $[9999]\n", 16) + "token \"\\u0000\\u007f\"\nfuel 1\nquota 100000\n": {Cats: names(64), Marks: most, Token: "\x00\x7f", Fuel: 1, Quota: 100000},
	} {
		if p.Fuel == 0 {
			isNone(t, want)
			continue
		}
		if s := policy.Print(p); s != want {
			t.Errorf("Print(%v): %q; wanted %q", p, s, want)
		}
		if back, e := policy.Parse(want); e != api.OK || !samePolicy(back, p) {
			t.Errorf("Parse(%q): %v, %d", want, back, e)
		}
		checkParse(t, want)
	}
}

// P8.2 and P8.4: policies of all sorts, written and read again.
func TestPrintAndParse(t *testing.T) {
	for _, p := range anyPolicies(4000) {
		if e := policy.May(p); e != api.OK {
			t.Fatalf("%v: %d", p, e)
		}
		s := policy.Print(p)
		if s != printed(p) {
			t.Fatalf("Print(%v): %q; wanted %q", p, s, printed(p))
		}
		back, e := policy.Parse(s)
		if e != api.OK || !samePolicy(back, p) {
			t.Fatalf("Parse(%q): %v, %d", s, back, e)
		}
		checkParse(t, s)
	}
}

// P8.2 and P8.4: each number of fuel there may be, tokens of each rune of the first ones, and some that may not be.
func TestPrintAndParseOfEach(t *testing.T) {
	var l []api.Policy
	for n := range 3000 {
		for _, n := range []int{n, n * 50, 100000 - n, 100000 + n} {
			l = append(l, api.Policy{Fuel: n, Quota: 5}, api.Policy{Fuel: 5, Quota: n})
		}
	}
	for _, n := range []int{-1, -5, math.MinInt, math.MaxInt, 1<<32 + 5} {
		l = append(l, api.Policy{Fuel: n, Quota: 5}, api.Policy{Fuel: 5, Quota: n})
	}
	for r := range rune(0x3000) {
		l = append(l, api.Policy{Token: string(r), Fuel: 5, Quota: 5}, api.Policy{Token: "a" + string(r) + "\"", Fuel: 5, Quota: 5})
	}
	for length := range 40 {
		for _, one := range []string{"a", "\n", "\x01", "é"} {
			l = append(l, api.Policy{Token: strings.Repeat(one, length), Fuel: 5, Quota: 5})
		}
	}
	for _, p := range l {
		s := policy.Print(p)
		if policy.May(p) != api.OK {
			isNone(t, s)
			continue
		}
		if back, e := policy.Parse(s); s != printed(p) || e != api.OK || !samePolicy(back, p) {
			t.Fatalf("Parse(%q): %v, %d; wanted %v", s, back, e, p)
		}
	}
}

// P8.2: a line by itself, wrong in one way, among such as are right.
func TestParseOfWrongLines(t *testing.T) {
	right := []string{"cats a b_1", "mark b_1 $.k", "token \"#\"", "fuel 9", "quota 3"}
	wrong := [][]string{
		{"", "a b_1", "cat a b_1", "catsa b_1", "Cats a b_1", " cats a b_1", "cats  a b_1", "cats a  b_1", "cats a b_1 ", "cats a\tb_1", "cats\ta b_1", "cats a,b_1", "cats a b_1\r", "cats a b_1 a", "cats a b_1 b_1", "cats A b_1", "cats a b_1 _", "cats a b_1 1", "cats a b_1 é", "cats a b_1 \xff", "cats a b_1 " + strings.Repeat("x", 25), "cats a", "cats", "cats ", "cats \"a\" b_1", "cats a b_1\x00", "cats a b_1 " + strings.Join(names(63), " ")},
		{"mark $.k", "mark  $.k", "mark", "mark ", "mark b_1", "mark b_1 ", "mark b_1$.k", "mark  b_1 $.k", "mark b_1  $.k", "mark b_1 $.k ", "mark b_1 a $.k", "mark b_1 b_1 $.k", "mark a  b_1 $.k", "mark c $.k", "mark a c $.k", "mark B_1 $.k", "mark b_1 $.K", "mark b_1 $[\"k\"]", "mark b_1 $[01]", "mark b_1 $[10000]", "mark b_1 k", "mark b_1 .k", "mark b_1 $.k $.k", "mark b_1 $ $", "mark b_1\t$.k", "mark\tb_1 $.k", "markb_1 $.k", "Mark b_1 $.k", " mark b_1 $.k", "mark 2 $.k", "mark b_1,a $.k", "mark b_1 $.k\r", "mark b_1 $" + strings.Repeat(".k", 9), "mark b_1 $[\"" + strings.Repeat("K", 25) + "\"]", "mark b_1 $[\"\xff\"]", "mark b_1 \"$.k\"", "mark $.k b_1", "mark $ $", "mark b_1 \\$.k"},
		{"", "token", "token ", "token #", "token \"#", "token #\"", "token \"#\" ", "token  \"#\"", "token \"#\"\"", "token \"#\" \"#\"", "token\"#\"", "token '#'", "token \"\\u0023\"", "token \"\\/\"", "token \"\\u000a\"", "token \"\\u00E9\"", "token \"\t\"", "token \"\x7f\"", "token \"\xff\"", "token \"\\x\"", "token \"\\ud800\"", "token \"" + strings.Repeat("a", 25) + "\"", "token \"" + strings.Repeat("é", 13) + "\"", "Token \"#\"", " token \"#\"", "token \"#\"\r", "token \"\\u001F\"", "token null"},
		{"", "fuel", "fuel ", "fuel 0", "fuel 100001", "fuel -1", "fuel +9", "fuel 09", "fuel 9 ", "fuel  9", "fuel 9.0", "fuel 9e0", "fuel 0x9", "fuel 1_0", "fuel nine", "fuel \"9\"", "fuel9", "Fuel 9", " fuel 9", "fuel 9\r", "fuel 18446744073709551625", "fuel 4294967305", "fuel \u0669", "fuel 9 9", "quota 9"},
		{"", "quota", "quota ", "quota 0", "quota 100001", "quota -1", "quota +3", "quota 03", "quota 3 ", "quota  3", "quota 3.0", "quota 3e0", "quota 0x3", "quota 1_0", "quota three", "quota3", "Quota 3", " quota 3", "quota 3\r", "quota 18446744073709551619", "quota 4294967299", "quota \u0663", "quota 3 3", "fuel 3"},
	}
	checkParse(t, strings.Join(right, "\n")+"\n")
	isNone(t, strings.Join(right, "\n"))
	for place, l := range wrong {
		for _, line := range l {
			lines := slices.Clone(right)
			lines[place] = line
			s := strings.Join(lines, "\n") + "\n"
			isNone(t, s)
			if _, ok := parsed(s); ok {
				t.Errorf("the other reader takes %q", s)
			}
		}
	}
}

// P8.2: all rows of six lines at most.
func TestParseOfRowsOfLines(t *testing.T) {
	last := []string{""}
	taken := 0
	for range 6 {
		var longer []string
		for _, s := range last {
			for _, line := range []string{"cats a b", "mark a $", "mark a b $[0]", "token \"\"", "fuel 9", "quota 3", ""} {
				row := s + line + "\n"
				longer = append(longer, row)
				checkParse(t, row)
				if _, e := policy.Parse(row); e == api.OK {
					taken++
				}
				if len(last) < 1000 {
					isNone(t, row[:len(row)-1])
				}
			}
		}
		last = longer
	}
	if taken != 1+2+4 { // without a mark, with one, with two
		t.Errorf("%d rows were taken", taken)
	}
}

// P8.2: each byte put in, and in the place of another, at each place; and each part left out.
func TestParseOfChangedTexts(t *testing.T) {
	taken := 0
	for _, s := range []string{"cats a b_1\nmark b_1 $.k\nmark a b_1 $**[\" $\"]\ntoken \"#\\n\"\nfuel 9\nquota 30\n", "cats\ntoken \"\"\nfuel 1\nquota 100000\n"} {
		for place := range len(s) + 1 {
			for b := range 256 {
				one := string([]byte{byte(b)})
				checkParse(t, s[:place]+one+s[place:])
				if place < len(s) {
					checkParse(t, s[:place]+one+s[place+1:])
				}
			}
			for end := place; end <= len(s); end++ {
				shorter := s[:place] + s[end:]
				checkParse(t, shorter)
				if _, e := policy.Parse(shorter); e == api.OK {
					taken++
				}
			}
			checkParse(t, s[:place])
			checkParse(t, s[place:])
		}
	}
	if taken < 100 {
		t.Errorf("no more than %d were taken", taken)
	}
}

// P8.2: as many categories and marks as may be, and more.
func TestParseOfHowMany(t *testing.T) {
	end := "token \"#\"\nfuel 9\nquota 3\n"
	for count := range 140 {
		s := strings.Join(append([]string{"cats"}, names(count)...), " ") + "\n" + end
		if p, e := policy.Parse(s); (e == api.OK) != (count <= 64) || e == api.OK && !slices.Equal(p.Cats, names(count)) {
			t.Errorf("Parse with %d categories: %v, %d", count, p, e)
		}
		checkParse(t, s)
		for _, lines := range []string{strings.Repeat("mark a $\n", count), strings.Repeat("mark a b $.x\n", count) + "mark b $.y\n"} {
			s := "cats a b\n" + lines + end
			have := strings.Count(lines, "\n")
			if p, e := policy.Parse(s); (e == api.OK) != (have <= 16) || e == api.OK && len(p.Marks) != have {
				t.Errorf("Parse with %d marks: %v, %d", have, p, e)
			}
			checkParse(t, s)
		}
	}
}

// P8.2, R1: long texts that are none.
func TestParseOfLongTexts(t *testing.T) {
	end := "token \"#\"\nfuel 9\nquota 3\n"
	many := 1 << 21
	for _, s := range []string{
		strings.Repeat("\n", many), strings.Repeat(" ", many), strings.Repeat("cats\n", many), "cats" + strings.Repeat(" ", many) + "\n" + end, "cats" + strings.Repeat(" a", many) + "\n" + end, "cats " + strings.Repeat("a", many) + "\n" + end,
		"cats a\n" + strings.Repeat("mark a $\n", many) + end, "cats a\nmark" + strings.Repeat(" a", many) + " $\n" + end, "cats a\nmark a" + strings.Repeat(" $", many) + "\n" + end, "cats a\nmark a $" + strings.Repeat(".a", many) + "\n" + end, "cats a\n" + strings.Repeat("mark", many) + "\n" + end,
		"cats a\ntoken \"" + strings.Repeat("a", many) + "\"\nfuel 9\nquota 3\n", "cats a\ntoken \"\"\nfuel " + strings.Repeat("9", many) + "\nquota 3\n", "cats a\ntoken \"\"\nfuel " + strings.Repeat("0", many) + "9\nquota 3\n", "cats a\n" + end + strings.Repeat(end, many/10), "cats a\n" + end + strings.Repeat(" ", many),
	} {
		isNone(t, s)
	}
}

// R1 and R6: of any policy Print ends, and tells the same again, and what is told of one that may not be is none.
func TestPrintOfWhatMayNotBe(t *testing.T) {
	for _, p := range oddPolicies() {
		s := policy.Print(p)
		if s != policy.Print(p) {
			t.Errorf("Print(%v): %q, and %q", p, s, policy.Print(p))
		}
		if back, e := policy.Parse(s); e == api.OK && policy.Print(back) != s {
			t.Errorf("Parse(%q): %v", s, back)
		}
	}
}

// R7: two answers share nothing.
func TestParseIsItsOwn(t *testing.T) {
	s := "cats a b\nmark b $.k\nmark a b $**.id[1]\ntoken \"#\"\nfuel 9\nquota 3\n"
	first, _ := policy.Parse(s)
	want, _ := policy.Parse(s)
	for i := range first.Cats[:cap(first.Cats)] {
		first.Cats[:cap(first.Cats)][i] = "scribbled"
	}
	for i, mark := range first.Marks {
		_ = append(mark.Path, key("scribbled"))
		for k := range mark.Path {
			mark.Path[k] = at(77)
		}
		first.Marks[i].Mask = 99
	}
	second, e := policy.Parse(s)
	if e != api.OK || !samePolicy(second, want) || policy.Print(want) != s {
		t.Errorf("%v, %v, %d", second, want, e)
	}
}
