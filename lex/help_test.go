package lex_test

import (
	"math/rand/v2"
	"regexp"
	"slices"
	"strings"
	"testing"

	"bowdler/api"
	"bowdler/dec"
	"bowdler/lex"
	"bowdler/quote"
)

func name(at int, s string) api.Token { return api.Token{Kind: api.TkName, At: at, Text: s} }

func variable(at int, s string) api.Token { return api.Token{Kind: api.TkVar, At: at, Text: s} }

func key(at int, s string) api.Token { return api.Token{Kind: api.TkKey, At: at, Text: s} }

func text(at int, s string) api.Token { return api.Token{Kind: api.TkText, At: at, Text: s} }

func sign(at int, s string) api.Token { return api.Token{Kind: api.TkSign, At: at, Text: s} }

// num is of digits, of which scale stand behind the point.
func num(at int, digits string, scale int) api.Token {
	return api.Token{Kind: api.TkNum, At: at, Num: api.Dec{Digits: digits, Scale: scale}}
}

// allSigns are P10.1's, in its order.
func allSigns() []string {
	return strings.Fields("== != <= >= . ( ) [ ] { } | , : ; + - * / % < >")
}

// form is P10.1's of what stands ahead, written another way: a name, a variable, a key, what a quoted text begins with, a number, a sign.
var form = regexp.MustCompile(`\A(?:([a-z][a-z0-9_]*)|\$([a-z][a-z0-9_]*)|\.([a-z][a-z0-9_]*)|(\.?")|([0-9]+(?:\.[0-9]+)?(?:[eE][+-]?[0-9]+)?)|([=!<>]=|[.()\[\]{}|,:;+\-*/%<>]))`)

// all is P10.1's All, written another way.
func all(s string) ([]api.Token, api.Errno) {
	if len(s) > 2000 {
		return nil, api.ErrBig
	}
	var l []api.Token
	for at := 0; at < len(s); {
		if strings.ContainsRune("\x20\x09\x0a\x0d", rune(s[at])) {
			at++
			continue
		}
		token, size := one(s[at:])
		if size == 0 {
			return nil, api.ErrLex
		}
		token.At = at
		l = append(l, token)
		at += size
	}
	if len(l) > 600 {
		return nil, api.ErrBig
	}
	return l, api.OK
}

// one is the token that s begins with, and how many bytes it has: 0, if none stands there, or one that is wrong.
func one(s string) (api.Token, int) {
	m := form.FindStringSubmatch(s)
	if m == nil {
		return api.Token{}, 0
	}
	for kind, text := range m[1:4] {
		if text != "" && len(text) <= 24 {
			return api.Token{Kind: 1 + kind, Text: text}, len(m[0])
		}
	}
	switch {
	case m[4] != "":
		text, size, e := quote.Unquote(s[len(m[4])-1:])
		if e != api.OK {
			return api.Token{}, 0
		}
		if m[4] == `."` {
			return api.Token{Kind: 3, Text: text}, size + 1
		}
		return api.Token{Kind: 5, Text: text}, size
	case m[5] != "":
		d, e := dec.Parse(m[5])
		if e != api.OK {
			return api.Token{}, 0
		}
		return api.Token{Kind: 4, Num: d}, len(m[5])
	}
	return api.Token{Kind: 6, Text: m[6]}, len(m[6])
}

// checkAll holds what All tells of s against what the other reader does, and P10.3.
func checkAll(t *testing.T, s string) {
	t.Helper()
	l, e := lex.All(s)
	want, code := all(s)
	if e != code || !slices.Equal(l, want) {
		t.Fatalf("All(%.300q): %v, %d; wanted %v, %d", s, l, e, want, code)
	}
	if e == api.OK {
		checkAgain(t, l)
	}
}

// checkAgain holds that l, printed and read again, is l but for the places.
func checkAgain(t *testing.T, l []api.Token) {
	t.Helper()
	s := lex.Print(l)
	back, e := lex.All(s)
	if len(s) > api.MaxFilter {
		if e != api.ErrBig {
			t.Fatalf("All(%.300q): %d", s, e)
		}
		return
	}
	if e != api.OK || !slices.Equal(bare(back), bare(l)) {
		t.Fatalf("All(%.300q): %v, %d; wanted %v", s, back, e, l)
	}
}

// bare is l without places.
func bare(l []api.Token) []api.Token {
	l = slices.Clone(l)
	for i := range l {
		l[i].At = 0
	}
	return l
}

// isNone holds that s is refused with that error, and that nothing is told beside it.
func isNone(t *testing.T, s string, code api.Errno) {
	t.Helper()
	if l, e := lex.All(s); e != code || len(l) != 0 {
		t.Errorf("All(%.300q): %v, %d; wanted %d", s, l, e, code)
	}
}

// someTexts are of all sorts, such as names are, and such as are not.
func someTexts() []string {
	return []string{"a", "z_9", "if", "e1", "", " ", "A", "a b", ".", "$x", "\"", "\\", "\n\r\t", "\x00\x1f\x7f", "é", "\U0001f600", "\u2028", "0", "==", "x\" .\"y", strings.Repeat("x", 24), strings.Repeat("x", 25), strings.Repeat("\x01", 20)}
}

// anyToken is one that All may tell, but for its place.
func anyToken(chance *rand.Rand) api.Token {
	names, texts, signs := []string{"a", "b_", "e", "e5", "z09_", "null", "if", strings.Repeat("n", 24)}, someTexts(), allSigns()
	kind := 1 + chance.IntN(6)
	switch kind {
	case api.TkName, api.TkVar:
		return api.Token{Kind: kind, Text: names[chance.IntN(len(names))]}
	case api.TkNum:
		numbers := []string{"0", "1", "7", "10", "1.5", "0.1", "0.001", "1e59", "1e-60", strings.Repeat("9", 60), "0." + strings.Repeat("9", 60), "12345678.09"}
		d, _ := dec.Parse(numbers[chance.IntN(len(numbers))])
		return api.Token{Kind: kind, Num: d}
	case api.TkSign:
		return api.Token{Kind: kind, Text: signs[chance.IntN(len(signs))]}
	}
	return api.Token{Kind: kind, Text: texts[chance.IntN(len(texts))]}
}

// anyTokens are no more than so many, the same ones in each run.
func anyTokens(chance *rand.Rand, most int) []api.Token {
	l := make([]api.Token, chance.IntN(most+1))
	for i := range l {
		l[i] = anyToken(chance)
	}
	return l
}
