package lex_test

import (
	"math"
	"math/rand/v2"
	"slices"
	"strings"
	"testing"

	"bowdler/api"
	"bowdler/lex"
)

// P10.2 and P10.3: what is written out here was told by hand; whatever the places are.
func TestPrintByHand(t *testing.T) {
	nines := strings.Repeat("9", 60)
	for want, l := range map[string][]api.Token{
		"":                                nil,
		"a":                               {name(3, "a")},
		"if_2 z":                          {name(0, "if_2"), name(0, "z")},
		"$x":                              {variable(-1, "x")},
		"$a $b_9":                         {variable(0, "a"), variable(0, "b_9")},
		`."a"`:                            {key(0, "a")},
		`."" ."a b" ."\"\n"`:              {key(0, ""), key(0, "a b"), key(0, "\"\n")},
		`."é" ."\u0000\u007f\\"`:          {key(0, "é"), key(0, "\x00\x7f\\")},
		"0":                               {num(0, "0", 0)},
		"1.5 100 0.001":                   {num(0, "15", 1), num(0, "100", 0), num(0, "1", 3)},
		"1" + nines[:59]:                  {num(0, "1"+nines[:59], 0)},
		"0." + nines:                      {num(0, nines, 60)},
		`"" "a" "\t\"" "é"`:               {text(0, ""), text(0, "a"), text(0, "\t\""), text(0, "é")},
		"== != <= >= < >":                 {sign(0, "=="), sign(0, "!="), sign(0, "<="), sign(0, ">="), sign(0, "<"), sign(0, ">")},
		". ( ) [ ] { } | , : ; + - * / %": {sign(0, "."), sign(0, "("), sign(0, ")"), sign(0, "["), sign(0, "]"), sign(0, "{"), sign(0, "}"), sign(0, "|"), sign(0, ","), sign(0, ":"), sign(0, ";"), sign(0, "+"), sign(0, "-"), sign(0, "*"), sign(0, "/"), sign(0, "%")},
		`. a . "b" ."b" . 1 1 . 5`:        {sign(0, "."), name(1, "a"), sign(2, "."), text(3, "b"), key(4, "b"), sign(5, "."), num(6, "1", 0), num(7, "1", 0), sign(8, "."), num(9, "5", 0)},
		"1 e + 5 <= < ==":                 {num(0, "1", 0), name(0, "e"), sign(0, "+"), num(0, "5", 0), sign(0, "<="), sign(0, "<"), sign(0, "==")},
		`."a" , $x >= 1.5`:                {key(0, "a"), sign(2, ","), variable(3, "x"), sign(5, ">="), num(7, "15", 1)},
	} {
		if s := lex.Print(l); s != want {
			t.Errorf("Print(%v): %q; wanted %q", l, s, want)
		}
		checkAgain(t, l)
	}
}

// P10.2: a number below 0, which All tells of none, is what dec.Print writes.
func TestPrintBelowNought(t *testing.T) {
	l := []api.Token{{Kind: api.TkNum, Num: api.Dec{Neg: true, Digits: "25", Scale: 1}}, sign(0, "-")}
	if s := lex.Print(l); s != "-2.5 -" {
		t.Errorf("%q", s)
	}
}

// P10.2 and P10.3: each two and each three of some tokens, side by side.
func TestPrintOfRows(t *testing.T) {
	some := []api.Token{num(0, "1", 0), num(0, "5", 1), name(0, "e"), name(0, "e5"), variable(0, "x"), key(0, "e"), key(0, ""), text(0, "\"."), text(0, ""), text(0, " ")}
	for _, one := range allSigns() {
		some = append(some, sign(0, one))
	}
	for _, a := range some {
		for _, b := range some {
			checkAgain(t, []api.Token{a, b})
			for _, c := range some {
				checkAgain(t, []api.Token{a, b, c})
			}
		}
	}
}

// P10.2 and P10.3: each rune there is, in texts and in keys.
func TestPrintOfEachRune(t *testing.T) {
	for r := rune(0); r <= 0x10ffff; r++ {
		if 0xd800 <= r && r <= 0xdfff {
			continue
		}
		l := []api.Token{text(0, string(r)), key(0, "a"+string(r)+"\""), sign(0, ".")}
		back, e := lex.All(lex.Print(l))
		if e != api.OK || !slices.Equal(bare(back), l) {
			t.Fatalf("All(%q): %v, %d", lex.Print(l), back, e)
		}
	}
}

// P10.2 and P10.3: tokens of all sorts, the same ones in each run; what they are by themselves they are with a blank between.
func TestPrintOfAnyTokens(t *testing.T) {
	chance := rand.New(rand.NewPCG(10, 2))
	for range 20000 {
		l := anyTokens(chance, 20)
		var parts []string
		for _, token := range l {
			parts = append(parts, lex.Print([]api.Token{token}))
		}
		if s := lex.Print(l); s != strings.Join(parts, " ") {
			t.Fatalf("Print(%v): %q", l, s)
		}
		checkAgain(t, l)
	}
	for range 300 {
		checkAgain(t, anyTokens(chance, 600))
	}
}

// P10.3: as many tokens as All tells, and as many bytes as it takes.
func TestPrintOfMany(t *testing.T) {
	for _, l := range [][]api.Token{
		slices.Repeat([]api.Token{sign(0, ".")}, 600),
		slices.Repeat([]api.Token{sign(0, "<=")}, 600),
		slices.Repeat([]api.Token{variable(0, "x")}, 600),
		slices.Repeat([]api.Token{key(0, "")}, 500),
		slices.Repeat([]api.Token{text(0, "")}, 600),
		slices.Repeat([]api.Token{num(0, strings.Repeat("9", 60), 60)}, 30),
		{text(0, strings.Repeat("a", 1998))},
		{key(0, strings.Repeat("\n", 998))},
	} {
		if s := lex.Print(l); len(s) > api.MaxFilter {
			t.Errorf("Print of %d: %d bytes", len(l), len(s))
		}
		checkAgain(t, l)
	}
}

// R1, R6 and R7: of any tokens Print ends, tells the same again, and changes none, nor the room behind them.
func TestPrintOfWhatMayNotBe(t *testing.T) {
	for _, l := range [][]api.Token{
		{{}}, {{}, {}}, {{Kind: -1, Text: "a"}}, {{Kind: 7, Text: "a", Num: api.Dec{Digits: "1"}}}, {{Kind: math.MaxInt}, {Kind: math.MinInt, At: math.MinInt}},
		{name(0, ""), name(0, "A b"), variable(0, ""), variable(0, "\xff"), sign(0, ""), sign(0, "=\n"), key(0, "\xff"), text(0, "\xff\xc3")},
		{num(0, "", 0), num(0, "x", -1), num(0, "00", 0), num(0, strings.Repeat("9", 5000), math.MaxInt), num(math.MaxInt, "1", math.MinInt)},
		slices.Repeat([]api.Token{{Kind: api.TkText, Text: strings.Repeat("\x00", 5000)}}, 100), slices.Repeat([]api.Token{{Kind: api.TkSign, Text: "."}}, 1<<18),
	} {
		roomy := append(slices.Clone(l), name(5, "spare"))
		want := slices.Clone(roomy)
		s := lex.Print(roomy[:len(l)])
		if s != lex.Print(l) || !slices.Equal(roomy, want) {
			t.Errorf("Print(%.300q)", s)
		}
		if _, e := lex.All(s); e != api.OK && e != api.ErrLex && e != api.ErrBig {
			t.Errorf("All(%.300q): %d", s, e)
		}
	}
}
