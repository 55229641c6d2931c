package quote

import (
	"strings"
	"unicode/utf8"

	"bowdler/api"
)

// Halves of a rune: one of the first kind, and behind it one of the second.
const (
	firstHalf    = 0xd800
	secondHalf   = 0xdc00
	behindHalves = 0xe000
)

// unitSize is how many bytes \u and four digits have.
const unitSize = 6

// Unquote reads the quoted text that s begins with, and tells how many bytes of s it has.
func Unquote(s string) (string, int, api.Errno) {
	if !strings.HasPrefix(s, `"`) {
		return "", 0, api.ErrText
	}
	var text strings.Builder
	at := 1
	for !strings.HasPrefix(s[at:], `"`) {
		r, size := next(s[at:])
		if size == 0 {
			return "", 0, api.ErrText
		}
		if text.Len() <= api.MaxText { // of a text that is too long no more than that is held
			text.WriteRune(r)
		}
		at += size
	}
	if text.Len() > api.MaxText { // asked at the end: what is no text at all is told first
		return "", 0, api.ErrBig
	}
	return text.String(), at + 1, api.OK
}

// next reads the rune that s begins with, and tells how many bytes of s are written for it: 0, if there is none.
func next(s string) (r rune, size int) {
	if strings.HasPrefix(s, `\`) {
		return escaped(s)
	}
	r, size = utf8.DecodeRuneInString(s)
	if r < 0x20 || r == utf8.RuneError && size <= 1 {
		return 0, 0
	}
	return r, size
}

// escaped is next of what begins with a backslash.
func escaped(s string) (r rune, size int) {
	if len(s) < 2 {
		return 0, 0
	}
	switch s[1] {
	case '"', '\\', '/':
		return rune(s[1]), 2
	case 'b':
		return '\b', 2
	case 'f':
		return '\f', 2
	case 'n':
		return '\n', 2
	case 'r':
		return '\r', 2
	case 't':
		return '\t', 2
	}
	return numbered(s)
}

// numbered is next of what begins with \u and the rune's number, or with both halves of a rune.
func numbered(s string) (r rune, size int) {
	first, ok := unit(s)
	if !ok {
		return 0, 0
	}
	if first < firstHalf || first >= behindHalves {
		return first, unitSize
	}
	second, ok := unit(s[unitSize:])
	if !ok || first >= secondHalf || second < secondHalf || second >= behindHalves {
		return 0, 0
	}
	return 0x10000 + (first-firstHalf)*0x400 + second - secondHalf, 2 * unitSize
}

// unit reads \u and four digits.
func unit(s string) (n rune, ok bool) {
	if len(s) < unitSize || !strings.HasPrefix(s, `\u`) {
		return 0, false
	}
	for _, digit := range s[2:unitSize] {
		worth, ok := worthOf(digit)
		if !ok {
			return 0, false
		}
		n = n*16 + worth
	}
	return n, true
}

// worthOf is the number that a hexadecimal digit stands for.
func worthOf(digit rune) (worth rune, ok bool) {
	switch {
	case '0' <= digit && digit <= '9':
		return digit - '0', true
	case 'a' <= digit && digit <= 'f':
		return digit - 'a' + 10, true
	case 'A' <= digit && digit <= 'F':
		return digit - 'A' + 10, true
	}
	return 0, false
}
