package lex_test

import (
	"math/rand/v2"
	"slices"
	"strings"
	"testing"

	"bowdler/api"
	"bowdler/lex"
)

// P10.1: what is written out here was told by hand.
func TestAllByHand(t *testing.T) {
	digits := strings.Repeat("123456789", 7)[:60]
	long := "abcdefghijklmnopqrstuv_9"
	for s, want := range map[string][]api.Token{
		"":                              nil,
		" \t\n\r":                       nil,
		".a,$x>=1.5":                    {key(0, "a"), sign(2, ","), variable(3, "x"), sign(5, ">="), num(7, "15", 1)},
		"a":                             {name(0, "a")},
		"if_2 x\tz\n0":                  {name(0, "if_2"), name(5, "x"), name(7, "z"), num(9, "0", 0)},
		"a$b.c":                         {name(0, "a"), variable(1, "b"), key(3, "c")},
		"a__ ":                          {name(0, "a__")},
		long:                            {name(0, long)},
		"$" + long:                      {variable(0, long)},
		"." + long:                      {key(0, long)},
		".a.b":                          {key(0, "a"), key(2, "b")},
		". a":                           {sign(0, "."), name(2, "a")},
		"..a":                           {sign(0, "."), key(1, "a")},
		".1":                            {sign(0, "."), num(1, "1", 0)},
		". \"a\"":                       {sign(0, "."), text(2, "a")},
		`."a"`:                          {key(0, "a")},
		`.""`:                           {key(0, "")},
		`.a"b"`:                         {key(0, "a"), text(2, "b")},
		`."a""b"`:                       {key(0, "a"), text(4, "b")},
		`."é\n"."\u00e9\"" x`:           {key(0, "é\n"), key(7, "é\""), name(19, "x")},
		`""`:                            {text(0, "")},
		`"a b"c`:                        {text(0, "a b"), name(5, "c")},
		`"$x.y 1"`:                      {text(0, "$x.y 1")},
		`"\ud83d\ude00"  "/\/"`:         {text(0, "\U0001f600"), text(16, "//")},
		"\"\x7f\u2028\"":                {text(0, "\x7f\u2028")},
		"0":                             {num(0, "0", 0)},
		"10.50":                         {num(0, "105", 1)},
		"1.50e1":                        {num(0, "15", 0)},
		"1E+2 1e-2 2E3":                 {num(0, "100", 0), num(5, "1", 2), num(10, "2000", 0)},
		"1e05":                          {num(0, "100000", 0)},
		"1.":                            {num(0, "1", 0), sign(1, ".")},
		"1.a":                           {num(0, "1", 0), key(1, "a")},
		"1.e5":                          {num(0, "1", 0), key(1, "e5")},
		`1."e"`:                         {num(0, "1", 0), key(1, "e")},
		"1..5":                          {num(0, "1", 0), sign(1, "."), sign(2, "."), num(3, "5", 0)},
		"1.5.2":                         {num(0, "15", 1), sign(3, "."), num(4, "2", 0)},
		"1.5.b":                         {num(0, "15", 1), key(3, "b")},
		"1e":                            {num(0, "1", 0), name(1, "e")},
		"1ex":                           {num(0, "1", 0), name(1, "ex")},
		"1e+":                           {num(0, "1", 0), name(1, "e"), sign(2, "+")},
		"1e-x":                          {num(0, "1", 0), name(1, "e"), sign(2, "-"), name(3, "x")},
		"1e+-2":                         {num(0, "1", 0), name(1, "e"), sign(2, "+"), sign(3, "-"), num(4, "2", 0)},
		"1e 2":                          {num(0, "1", 0), name(1, "e"), num(3, "2", 0)},
		"1e2e3":                         {num(0, "100", 0), name(3, "e3")},
		"1e2.5":                         {num(0, "100", 0), sign(3, "."), num(4, "5", 0)},
		"1e2x":                          {num(0, "100", 0), name(3, "x")},
		"1x":                            {num(0, "1", 0), name(1, "x")},
		"0x1":                           {num(0, "0", 0), name(1, "x1")},
		"-1":                            {sign(0, "-"), num(1, "1", 0)},
		"+1--1":                         {sign(0, "+"), num(1, "1", 0), sign(2, "-"), sign(3, "-"), num(4, "1", 0)},
		"1 .5":                          {num(0, "1", 0), sign(2, "."), num(3, "5", 0)},
		"0.0":                           {num(0, "0", 0)},
		"0e99":                          {num(0, "0", 0)},
		digits:                          {num(0, digits, 0)},
		"0." + digits:                   {num(0, digits, 60)},
		"1e-60":                         {num(0, "1", 60)},
		"1e59":                          {num(0, "1"+strings.Repeat("0", 59), 0)},
		"0." + strings.Repeat("0", 900): {num(0, "0", 0)},
		"==!=<=>=":                      {sign(0, "=="), sign(2, "!="), sign(4, "<="), sign(6, ">=")},
		"<>=<":                          {sign(0, "<"), sign(1, ">="), sign(3, "<")},
		"<<=":                           {sign(0, "<"), sign(1, "<=")},
		"====":                          {sign(0, "=="), sign(2, "==")},
		"<!=>":                          {sign(0, "<"), sign(1, "!="), sign(3, ">")},
		"...":                           {sign(0, "."), sign(1, "."), sign(2, ".")},
		".[]":                           {sign(0, "."), sign(1, "["), sign(2, "]")},
		"{a:1}":                         {sign(0, "{"), name(1, "a"), sign(2, ":"), num(3, "1", 0), sign(4, "}")},
		"reduce .[] as $x (0;.+$x)":     {name(0, "reduce"), sign(7, "."), sign(8, "["), sign(9, "]"), name(11, "as"), variable(14, "x"), sign(17, "("), num(18, "0", 0), sign(19, ";"), sign(20, "."), sign(21, "+"), variable(22, "x"), sign(24, ")")},
	} {
		if l, e := lex.All(s); e != api.OK || !slices.Equal(l, want) {
			t.Errorf("All(%q): %v, %d; wanted %v", s, l, e, want)
		}
		checkAll(t, s)
	}
}

// P10.1: what is none, or is not what it must be, by itself and among such as are right.
func TestAllOfWhatIsNone(t *testing.T) {
	for _, s := range []string{
		"A", "Z", "_", "_a", "é", "\u0660", "\uff41", "\u00a0", "\u2028", "\ufeff", "\x00", "\x01", "\v", "\f", "\x1f", "\x7f", "\x80", "\xff", "!", "=", "&", "@", "#", "^", "~", "?", "'", "`", "\\", "&&", "= =", "! =", "=<", "=>", "===", "<==>", "<= =", "< =", ".=", "aB", "a\xff", "a-é",
		"$", "$ x", "$$", "$$x", "$1", "$_", "$_a", "$A", "$\"x\"", "$.x", "$é", "$-", "$(",
		"._", "._a", ".A", ".é", ".$", ".'a'", ".\\",
		"01", "00", "00.5", "007", "1e123", "1e001", "1.5e-100", "0e000", "01e1", "1.5E", "1E", "1E+", "1_0", "1.5_", "1e5_", "1e60", "1e-61", "0.1e61", "10e59", strings.Repeat("9", 61), "1" + strings.Repeat("0", 60), "0." + strings.Repeat("0", 60) + "1", strings.Repeat("9", 60) + ".5", "1" + strings.Repeat("0", 900) + "e-99",
		`"`, `"a`, `"\"`, `"\x"`, `"\u12"`, `"\u123g"`, `"\ud800"`, `"\udc00"`, `"\ud800\ud800"`, "\"a\nb\"", "\"\x1f\"", "\"\xff\"", "\"\xc3\"", `'a'`, `\"a"`, "\"\xed\xa0\x80\"",
		`."`, `."a`, `."\"`, `."\x"`, `."\ud800"`, ".\"\n\"", ".\"\xff\"", `.a"`, `."a"b"`,
	} {
		for _, ahead := range []string{"", " ", "a ", "1,", "$x|", "\"t\" ", "., "} {
			for _, behind := range []string{"", " ", " a", " )", " 1", "\n"} {
				isNone(t, ahead+s+behind, api.ErrLex)
				checkAll(t, ahead+s+behind)
			}
		}
	}
}

// P10.1: names of all lengths, by themselves, of variables and of keys; a key that is quoted may be longer.
func TestAllOfNames(t *testing.T) {
	for _, rest := range []string{"a", "z", "0", "9", "_"} {
		for length := 1; length <= 60; length++ {
			s := "q" + strings.Repeat(rest, length-1)
			if length > api.MaxName {
				isNone(t, s, api.ErrLex)
				isNone(t, "$"+s, api.ErrLex)
				isNone(t, "."+s, api.ErrLex)
			}
			for _, begin := range []string{"", "$", "."} {
				checkAll(t, begin+s)
				checkAll(t, begin+s+begin+s)
				checkAll(t, "1 "+begin+s+" 1")
			}
			if l, e := lex.All(".\"" + s + "\""); e != api.OK || !slices.Equal(l, []api.Token{key(0, s)}) {
				t.Errorf("All of the quoted key %q: %v, %d", s, l, e)
			}
		}
	}
}

// P10.1: each byte by itself, between tokens, and within each kind; each two bytes.
func TestAllOfBytes(t *testing.T) {
	for b := range 256 {
		one := string([]byte{byte(b)})
		for _, s := range []string{one, "a" + one, one + "a", "a" + one + "b", "$" + one, "$a" + one, "." + one, ".a" + one + "b", "1" + one, "1" + one + "2", "1." + one, "1e" + one, "1e" + one + "5", "1.5" + one + "7", "\"" + one + "\"", "\"a\"" + one, ".\"" + one + "\"", "\"\\" + one + "\"", "<" + one, one + "=", "(" + one + ")", one + "\"a\"", one + one + one} {
			checkAll(t, s)
		}
		for c := range 256 {
			checkAll(t, string([]byte{byte(b), byte(c)}))
		}
	}
}

// P10.1: the four blanks, and no other bytes, stand between tokens; where two may stand side by side none has to.
func TestAllOfBlanks(t *testing.T) {
	want := []api.Token{key(0, "a"), sign(0, "<="), text(0, "b"), num(0, "1", 0), name(0, "c"), variable(0, "d")}
	parts := []string{".a", "<=", "\"b\"", "1", "c", "$d"}
	for _, blank := range []string{"", " ", "\t", "\n", "\r", "\r\n", " \t\n\r", "\n\n  \n"} {
		s := blank + strings.Join(parts, blank) + blank
		at := len(blank)
		for i, part := range parts {
			want[i].At = at
			at += len(part) + len(blank)
		}
		if l, e := lex.All(s); e != api.OK || !slices.Equal(l, want) {
			t.Errorf("All(%q): %v, %d; wanted %v", s, l, e, want)
		}
	}
	for _, other := range []string{"\v", "\f", "\x00", "\x1c", "\x85", "\u0085", "\xa0", "\u00a0", "\u2028", "\u3000", "\ufeff", "\b"} {
		isNone(t, strings.Join(parts, other), api.ErrLex)
		isNone(t, other, api.ErrLex)
		isNone(t, ".a"+other, api.ErrLex)
	}
}

// P10.1: each sign by itself, and each two side by side.
func TestAllOfSigns(t *testing.T) {
	for _, one := range allSigns() {
		if l, e := lex.All(" " + one); e != api.OK || !slices.Equal(l, []api.Token{sign(1, one)}) {
			t.Errorf("All(%q): %v, %d", " "+one, l, e)
		}
		for _, two := range allSigns() {
			checkAll(t, one+two)
			if l, e := lex.All(one + " " + two); e != api.OK || !slices.Equal(l, []api.Token{sign(0, one), sign(len(one)+1, two)}) {
				t.Errorf("All(%q): %v, %d", one+" "+two, l, e)
			}
		}
	}
}

// P10.1: all short texts of the bytes that tokens are told apart by.
func TestAllOfShortTexts(t *testing.T) {
	for bytes, length := range map[string]int{"aeE01._+-$": 5, "a.\"\\ $=<!>n\n1": 4, "01.eE+-": 6, ".\"a\\\"": 7} {
		last := []string{""}
		for range length {
			var longer []string
			for _, s := range last {
				for i := range len(bytes) {
					longer = append(longer, s+bytes[i:i+1])
					checkAll(t, s+bytes[i:i+1])
				}
			}
			last = longer
		}
	}
}

// P10.1: as many bytes as may be, and more, whatever these are: that there are too many is told ahead of what is wrong.
func TestAllOfHowManyBytes(t *testing.T) {
	for _, one := range []string{" ", "a", "A", "1", ",", ".", "\"", "$", "é", "\xff", "\x00"} {
		for _, length := range []int{1998, 1999, 2000, 2001, 2002, 4096, 1 << 20} {
			s := strings.Repeat(one, length/len(one)+1)[:length]
			checkAll(t, s)
			if length > 2000 {
				isNone(t, s, api.ErrBig)
			} else if one == "A" || one == "a" || one == "1" {
				isNone(t, s, api.ErrLex)
			}
		}
	}
	inText, inKey := strings.Repeat("a", 1998), strings.Repeat("é", 998)+"\x7f"
	if l, e := lex.All("\"" + inText + "\""); e != api.OK || !slices.Equal(l, []api.Token{text(0, inText)}) {
		t.Errorf("All of a text of 1998 bytes: %d", e)
	}
	if l, e := lex.All(".\"" + inKey + "\""); e != api.OK || !slices.Equal(l, []api.Token{key(0, inKey)}) {
		t.Errorf("All of a key of 1997 bytes: %d", e)
	}
	isNone(t, "\""+inText+"a\"", api.ErrBig)
	isNone(t, ".\""+inKey+"a\"", api.ErrBig)
	isNone(t, "\""+strings.Repeat("a", 5000)+"\"", api.ErrBig)
	isNone(t, strings.Repeat(" ", 1999)+"é", api.ErrBig)
	if l, e := lex.All(strings.Repeat(" ", 1999) + "a"); e != api.OK || !slices.Equal(l, []api.Token{name(1999, "a")}) {
		t.Errorf("All of a name at 1999: %v, %d", l, e)
	}
}

// P10.1: as many tokens as may be, and more, of each kind; one that is wrong is told ahead of there being too many, wherever it is.
func TestAllOfHowManyTokens(t *testing.T) {
	for _, one := range []string{",", "a ", "$a ", ".a", "1 ", "\"\"", "==", "\"\"\n"} {
		for count := 590; count*len(one) <= 2000 && count < 700; count++ {
			s := strings.Repeat(one, count)
			checkAll(t, s)
			if count > 600 {
				isNone(t, s, api.ErrBig)
			} else if l, e := lex.All(s); e != api.OK || len(l) != count || l[count-1].At != (count-1)*len(one) {
				t.Errorf("All of %d times %q: %d, %d", count, one, len(l), e)
			}
		}
	}
	for _, count := range []int{0, 598, 599, 600, 601, 602, 1998} {
		for _, wrong := range []string{"A", "=", "\"", "$"} {
			for _, behind := range []int{0, 1, 598, 599, 600, 601, 602} {
				s := strings.Repeat(",", count) + wrong + strings.Repeat(",", behind)
				code := api.ErrLex
				if len(s) > 2000 {
					code = api.ErrBig
				}
				isNone(t, s, code)
				checkAll(t, s)
			}
		}
	}
	isNone(t, strings.Repeat("+", 2000), api.ErrBig)
}

// P10.1: rows of what tokens are made of, the same ones in each run.
func TestAllOfAnyTexts(t *testing.T) {
	chance := rand.New(rand.NewPCG(10, 1))
	parts := append(allSigns(), " ", "\n", "  ", "\t", "a", "if", "e5", "x_", "$", "$x", ".", ".k", "\"", "\"t\"", ".\"u v\"", "\\", "0", "1", "10", "2.5", "e", "E", "e-2", "_", "1e9", "as", "\"\\u00e9\"", "é")
	taken := 0
	for range 60000 {
		var s strings.Builder
		for range chance.IntN(12) {
			s.WriteString(parts[chance.IntN(len(parts))])
		}
		checkAll(t, s.String())
		if _, e := lex.All(s.String()); e == api.OK {
			taken++
		}
	}
	if taken < 10000 {
		t.Errorf("no more than %d were taken", taken)
	}
}

// R6 and R7: the same is told each time, and what one answer becomes the next does not see.
func TestAllIsItsOwn(t *testing.T) {
	s := ".a|$x>=1.5 \"t\" .\"k\" if"
	first, _ := lex.All(s)
	want, _ := lex.All(s)
	for i := range first[:cap(first)] {
		first[:cap(first)][i] = name(99, "scribbled")
	}
	second, e := lex.All(s)
	if e != api.OK || !slices.Equal(second, want) || !slices.Equal(want, []api.Token{key(0, "a"), sign(2, "|"), variable(3, "x"), sign(5, ">="), num(7, "15", 1), text(11, "t"), key(15, "k"), name(20, "if")}) {
		t.Errorf("%v, %v, %d", second, want, e)
	}
}
