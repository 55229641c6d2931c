package path_test

import (
	"regexp"
	"slices"
	"strconv"
	"strings"
	"testing"

	"bowdler/api"
	"bowdler/path"
	"bowdler/quote"
)

// stepForm is P7.2's of a step, but for the bounds of what stands in it.
var stepForm = regexp.MustCompile(`\A(?:\.([a-z][a-z0-9_]*)|\[("(?:[^"\\]|\\.)*")\]|\[(0|[1-9][0-9]*)\]|(\.\*)|(\[\*\])|(\*\*))`)

// plainName is what is written without quotes, if it isn't too long.
var plainName = regexp.MustCompile(`\A[a-z][a-z0-9_]{0,23}\z`)

// printed is P7.2's of a row of steps, written another way.
func printed(l []api.Step) string {
	s := "$"
	for _, step := range l {
		text := []string{"", ".", "[" + strconv.Itoa(step.N) + "]", ".*", "[*]", "**"}[step.Kind]
		if step.Kind == api.StKey {
			if text += step.Key; !plainName.MatchString(step.Key) {
				text = "[" + quote.Quote(step.Key) + "]"
			}
		}
		s += text
	}
	return s
}

// readStep is the step that a match of stepForm stands for.
func readStep(m []string) (api.Step, bool) {
	switch {
	case m[1] != "":
		return key(m[1]), len(m[1]) <= 24
	case m[2] != "":
		text, _, e := quote.Unquote(m[2])
		return key(text), e == api.OK && len(text) <= 24 && quote.Quote(text) == m[2] && !plainName.MatchString(text)
	case m[3] != "":
		n, err := strconv.Atoi(m[3])
		return at(n), err == nil && n <= 9999
	case m[4] != "":
		return anyKey, true
	case m[5] != "":
		return anyAt, true
	}
	return deep, true
}

// parsed is P7.2's, written another way.
func parsed(s string) ([]api.Step, api.Errno) {
	rest, ok := strings.CutPrefix(s, "$")
	if !ok {
		return nil, api.ErrPath
	}
	var l []api.Step
	for rest != "" {
		m := stepForm.FindStringSubmatch(rest)
		if m == nil {
			return nil, api.ErrPath
		}
		step, ok := readStep(m)
		if !ok {
			return nil, api.ErrPath
		}
		l = append(l, step)
		rest = rest[len(m[0]):]
	}
	if len(l) > 8 {
		return nil, api.ErrBig
	}
	return l, api.OK
}

func checkParse(t *testing.T, s string) {
	t.Helper()
	want, wantError := parsed(s)
	l, e := path.Parse(s)
	if e != wantError || !slices.Equal(l, want) {
		t.Fatalf("Parse(%.100q): %v, %d; not %v, %d", s, l, e, want, wantError)
	}
	if e == api.OK && (path.May(l) != api.OK || path.Print(l) != s) {
		t.Fatalf("Parse(%.100q): May %d, Print %q", s, path.May(l), path.Print(l))
	}
}

// P7.2 and P7.4: rows of steps of all sorts, written and read again.
func TestPrintAndParse(t *testing.T) {
	for _, l := range rows(4, key("a"), key("z_9"), key(""), key("A"), key("\"]"), at(0), at(120), anyKey, anyAt, deep) {
		s := path.Print(l)
		if s != printed(l) {
			t.Fatalf("Print(%v): %s", l, s)
		}
		back, e := path.Parse(s)
		if e != api.OK || !slices.Equal(back, l) {
			t.Fatalf("Parse(%q): %v, %d", s, back, e)
		}
	}
}

// P7.2 and P7.4: each byte and many runes in keys, each number, and keys of all lengths.
func TestPrintAndParseOfOne(t *testing.T) {
	var steps []api.Step
	for r := range rune(0x3000) {
		steps = append(steps, key(string(r)), key("a"+string(r)))
	}
	for n := range 10001 {
		steps = append(steps, at(n))
	}
	for length := range 30 {
		steps = append(steps, key(strings.Repeat("b", length)), key(strings.Repeat("B", length)), key(strings.Repeat("\n", length)))
	}
	for _, step := range steps {
		l := []api.Step{step}
		s := path.Print(l)
		if s != printed(l) {
			t.Fatalf("Print(%v): %q", l, s)
		}
		back, e := path.Parse(s)
		if path.May(l) == api.OK {
			if e != api.OK || !slices.Equal(back, l) {
				t.Fatalf("Parse(%q): %v, %d", s, back, e)
			}
		} else if e != api.ErrPath || len(back) > 0 {
			t.Fatalf("Parse(%q): %v, %d", s, back, e)
		}
	}
}

// P7.2: what is written out here was told by hand.
func TestPrintByHand(t *testing.T) {
	for want, l := range map[string][]api.Step{
		"$":                                      nil,
		"$.a":                                    {key("a")},
		"$.a_1[0]":                               {key("a_1"), at(0)},
		`$["A"]`:                                 {key("A")},
		`$[""]`:                                  {key("")},
		`$["a b"]["\n"]`:                         {key("a b"), key("\n")},
		`$["\"\\"]`:                              {key("\"\\")},
		`$["é"]`:                                 {key("é")},
		`$["_a"]["1"]`:                           {key("_a"), key("1")},
		`$["*"].*["[*]"]`:                        {key("*"), anyKey, key("[*]")},
		"$.*[*]**":                               {anyKey, anyAt, deep},
		"$**.id":                                 {deep, key("id")},
		"$****[9999]":                            {deep, deep, at(9999)},
		"$[123456][1].a[2]":                      {at(123456), at(1), key("a"), at(2)},
		"$.abcdefghijklmnopqrstuvwx":             {key("abcdefghijklmnopqrstuvwx")},
		`$["abcdefghijklmnopqrstuvwxy"]`:         {key("abcdefghijklmnopqrstuvwxy")},
		"$" + strings.Repeat("[7]", 100):         slices.Repeat([]api.Step{at(7)}, 100),
		"$" + strings.Repeat(".k", 9) + ".*":     append(slices.Repeat([]api.Step{key("k")}, 9), anyKey),
		`$["` + strings.Repeat("K", 5000) + `"]`: {key(strings.Repeat("K", 5000))},
	} {
		if s := path.Print(l); s != want {
			t.Errorf("Print(%.100v): %.100s; not %.100s", l, s, want)
		}
	}
}

// P7.2: what is written another way than Print does is no pattern.
func TestParseByHand(t *testing.T) {
	for _, s := range []string{
		"", " ", " $", "$ ", "$$", "a", ".a", "[0]", "**", "\x00", "$a", "$1", "$.", "$..", "$..a", "$.a.", "$.a..b", "$.A", "$._", "$.1", "$.a-b", "$.a b", "$. a", "$.é", "$.a\n", "$.a\x00", "$.\xff", "$.a$", "$.a$.b",
		"$*", "$***", "$*.a", "$.a*", "$.**", "$.*a", "$.* ", "$* *", "$[*", "$[**]", "$[ *]", "$*]", "$[*]]", "$]", "$[]", "$[", "$[[0]]", "$.[0]", "$.[*]",
		"$[00]", "$[01]", "$[-0]", "$[-1]", "$[+1]", "$[1.0]", "$[1e1]", "$[0x1]", "$[1_0]", "$[ 1]", "$[1 ]", "$[10000]", "$[99999999999999999999]", "$[18446744073709551616]", "$[4294967296]", "$[1", "$[1.a", "$1]", "$[a]", "$[\u0661]",
		`$["a"]`, `$["`, `$["]`, `$[""`, `$["" ]`, `$[ ""]`, `$["A]`, `$["A"`, `$["A".a`, `$['A']`, `$.""`, `$."A"`, `$"A"`, `$["\u0041"]`, `$["\/"]`, `$["\u000a"]`, `$["\u00e9"]`, `$["\x"]`, "$[\"\n\"]", "$[\"\xff\"]", `$["\ud800"]`, `$["A""B"]`, `$["A","B"]`, `$["A"]"`,
		`$["abcdefghijklmnopqrstuvwx"]`, `$["abcdefghijklmnopqrstuvwxy"]`, "$.abcdefghijklmnopqrstuvwxy", `$["` + strings.Repeat("é", 13) + `"]`, `$["` + strings.Repeat("A", 5000) + `"]`,
	} {
		if l, e := path.Parse(s); e != api.ErrPath || len(l) > 0 {
			t.Errorf("Parse(%.60q): %v, %d", s, l, e)
		}
	}
	for s, want := range map[string][]api.Step{
		"$": nil, "$.***": {anyKey, deep}, "$**.*": {deep, anyKey}, "$**[*]": {deep, anyAt}, "$[*]**": {anyAt, deep}, "$.a**": {key("a"), deep}, "$.a.*": {key("a"), anyKey}, "$[0][10][9999]": {at(0), at(10), at(9999)}, `$["]"]["["]`: {key("]"), key("[")}, `$["\""].a`: {key("\""), key("a")}, `$["` + strings.Repeat("é", 12) + `"]`: {key(strings.Repeat("é", 12))}, `$["\u0000"]`: {key("\x00")},
	} {
		if l, e := path.Parse(s); e != api.OK || !slices.Equal(l, want) {
			t.Errorf("Parse(%q): %v, %d", s, l, e)
		}
	}
}

// P7.2: more steps than may be are told as that only where each of them may be.
func TestParseOfHowMany(t *testing.T) {
	steps := []string{".a", `["A"]`, "[0]", ".*", "[*]", "**"}
	wrong := []string{".A", `["a"]`, "[00]", "[10000]", "*", " ", ".", "[", `["`, ".abcdefghijklmnopqrstuvwxy", "\xff"}
	for count := range 20 {
		for shift := range steps {
			s := "$"
			for i := range count {
				s += steps[(i+shift)%len(steps)]
			}
			want := api.OK
			if count > 8 {
				want = api.ErrBig
			}
			l, e := path.Parse(s)
			if e != want || e == api.OK && len(l) != count || e != api.OK && len(l) > 0 {
				t.Errorf("Parse(%s): %v, %d", s, l, e)
			}
			for _, w := range wrong {
				for _, text := range []string{s + w, "$" + w + s[1:], w + s} {
					checkParse(t, text)
					if l, e := path.Parse(text); e == api.ErrBig {
						t.Errorf("Parse(%s): %v, %d", text, l, e)
					}
				}
			}
		}
	}
	for s, want := range map[string]api.Errno{"$" + strings.Repeat(".a", 1<<20): api.ErrBig, "$" + strings.Repeat(".a", 1<<20) + ".": api.ErrPath, "$" + strings.Repeat("[", 1<<20): api.ErrPath, "$[" + strings.Repeat("1", 1<<20) + "]": api.ErrPath, "$." + strings.Repeat("a", 1<<20): api.ErrPath, `$["` + strings.Repeat("A", 1<<20) + `"]`: api.ErrPath, strings.Repeat("$", 1<<20): api.ErrPath} {
		if l, e := path.Parse(s); e != want || len(l) > 0 {
			t.Errorf("Parse(%.20s): %d, %d", s, len(l), e)
		}
	}
}

// P7.2: all short texts of the bytes that stand in patterns.
func TestParseOfShortTexts(t *testing.T) {
	bytes := []string{"$", ".", "[", "]", "*", `"`, "a", "A", "0", "1", "\\", "n"}
	last := []string{"", "$", "$.a", "$["}
	for range 4 {
		var longer []string
		for _, s := range last {
			for _, b := range bytes {
				longer = append(longer, s+b)
				checkParse(t, s+b)
			}
		}
		last = longer
	}
	for b := range 256 {
		for _, s := range []string{"$.a[2]", `$["A b"].*`, "$**[*].x_1", `$["\n"]`} {
			for place := range len(s) + 1 {
				checkParse(t, s[:place]+string([]byte{byte(b)})+s[place:])
				if place < len(s) {
					checkParse(t, s[:place]+string([]byte{byte(b)})+s[place+1:])
					checkParse(t, s[:place])
				}
			}
		}
	}
}
