package lex

import (
	"strings"

	"bowdler/api"
	"bowdler/cats"
	"bowdler/dec"
	"bowdler/quote"
)

// Each reader here tells the token of its kind that s begins with, and how many bytes of s it has: 0, if there is none. Of one that begins so and is not what it must be it tells 0, too: what else could be read there is then wrong as well.

const (
	digits  = "0123456789"
	inNames = "abcdefghijklmnopqrstuvwxyz_" + digits
)

// signs has those of two bytes first, as some of one byte are what they begin with.
var signs = [...]string{"==", "!=", "<=", ">=", ".", "(", ")", "[", "]", "{", "}", "|", ",", ":", ";", "+", "-", "*", "/", "%", "<", ">"}

func readName(s string) (api.Token, int) { return readNamed(api.TkName, "", s) }

func readVar(s string) (api.Token, int) { return readNamed(api.TkVar, dollar, s) }

func readKey(s string) (api.Token, int) {
	if token, size := readNamed(api.TkKey, point, s); size > 0 {
		return token, size
	}
	return readQuoted(api.TkKey, point, s)
}

func readText(s string) (api.Token, int) { return readQuoted(api.TkText, "", s) }

// readNamed reads what begins with begin, and a name behind that.
func readNamed(kind int, begin, s string) (api.Token, int) {
	rest, found := strings.CutPrefix(s, begin)
	size := startSize(rest, inNames)
	if !found || !cats.MayName(rest[:size]) {
		return api.Token{}, 0
	}
	return api.Token{Kind: kind, Text: strings.Clone(rest[:size])}, len(begin) + size
}

// readQuoted reads what begins with begin, and a quoted text behind that.
func readQuoted(kind int, begin, s string) (api.Token, int) {
	rest, found := strings.CutPrefix(s, begin)
	if !found {
		return api.Token{}, 0
	}
	text, size, e := quote.Unquote(rest)
	if e != api.OK {
		return api.Token{}, 0
	}
	return api.Token{Kind: kind, Text: text}, len(begin) + size
}

// readNum takes no part of a number in which no digit is: a point or an e without one is a token of its own.
func readNum(s string) (api.Token, int) {
	size := partSize(s, "")
	size += partSize(s[size:], ".")
	size += partSize(s[size:], "e", "e+", "e-", "E", "E+", "E-")
	num, e := dec.Parse(s[:size])
	if e != api.OK {
		return api.Token{}, 0
	}
	return api.Token{Kind: api.TkNum, Num: num}, size
}

// partSize tells how many bytes of s are one of begins and the digits behind it: 0, if s does not begin so.
func partSize(s string, begins ...string) int {
	for _, begin := range begins {
		rest, found := strings.CutPrefix(s, begin)
		if size := startSize(rest, digits); found && size > 0 {
			return len(begin) + size
		}
	}
	return 0
}

// startSize tells how many bytes s begins with that are of a set.
func startSize(s, set string) int { return len(s) - len(strings.TrimLeft(s, set)) }

func readSign(s string) (api.Token, int) {
	for _, sign := range signs {
		if strings.HasPrefix(s, sign) {
			return api.Token{Kind: api.TkSign, Text: sign}, len(sign)
		}
	}
	return api.Token{}, 0
}
