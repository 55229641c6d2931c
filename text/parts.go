package text

import (
	"strings"

	"bowdler/api"
	"bowdler/dec"
	"bowdler/quote"
)

// part is what a document is made of: a sign, or a value without kids. Where neither is, nothing stands that a document may have.
type part struct {
	sign  byte
	value api.Value
	size  int
	big   bool // whether the value is a number or a text that is too big to be told
}

// parts gives a function that tells the next part of s with each call, and where in s it ends.
func parts(s string) func() (p part, end int) {
	rest := s
	return func() (part, int) {
		rest = strings.TrimLeft(rest, blanks)
		p := firstPart(rest)
		rest = rest[p.size:]
		return p, len(s) - len(rest)
	}
}

// firstPart is the part that s begins with.
func firstPart(s string) part {
	switch {
	case s == "":
		return part{}
	case strings.IndexByte("[]{},:", s[0]) >= 0:
		return part{sign: s[0], size: 1}
	case s[0] == '"':
		return textPart(s)
	case strings.HasPrefix(s, "null"):
		return part{value: api.Value{Kind: api.Null}, size: len("null")}
	case strings.HasPrefix(s, "false"):
		return part{value: api.Value{Kind: api.False}, size: len("false")}
	case strings.HasPrefix(s, "true"):
		return part{value: api.Value{Kind: api.True}, size: len("true")}
	}
	return numberPart(s)
}

// textPart is firstPart of what begins with a quote.
func textPart(s string) part {
	text, size, e := quote.Unquote(s)
	switch e {
	case api.OK:
		return part{value: api.Value{Kind: api.Text, Text: text}, size: size}
	case api.ErrBig:
		return part{value: api.Value{Kind: api.Text}, size: quotedSize(s), big: true}
	}
	return part{}
}

// quotedSize tells how many bytes a quoted text has that is one, but too long: Unquote does not tell it of those.
func quotedSize(s string) int {
	at := 1
	for s[at] != '"' {
		if s[at] == '\\' {
			at++
		}
		at++
	}
	return at + 1
}

// numberPart is firstPart of what begins as no other part does.
func numberPart(s string) part {
	size := len(s) - len(strings.TrimLeft(s, "0123456789-+.eE"))
	num, e := dec.Parse(s[:size])
	if e == api.ErrNumber {
		return part{}
	}
	return part{value: api.Value{Kind: api.Number, Num: num}, size: size, big: e != api.OK}
}
