package dec

import (
	"strings"

	"bowdler/api"
)

// Parse reads a number as JSON writes it, but with an exponent of two digits at most.
func Parse(s string) (api.Dec, api.Errno) {
	unsigned, neg := strings.CutPrefix(s, "-")
	whole, rest := cutDigits(unsigned)
	if whole == "" || len(whole) > 1 && whole[0] == '0' {
		return api.Dec{}, api.ErrNumber
	}
	part := ""
	if behind, ok := strings.CutPrefix(rest, "."); ok {
		part, rest = cutDigits(behind)
		if part == "" {
			return api.Dec{}, api.ErrNumber
		}
	}
	tens, ok := exponent(rest)
	if !ok {
		return api.Dec{}, api.ErrNumber
	}
	return fit(neg, append([]byte(whole), part...), len(part)-tens)
}

// cutDigits parts s behind the digits that it begins with.
func cutDigits(s string) (digits, rest string) {
	for i := range len(s) {
		if !isDigit(s[i]) {
			return s[:i], s[i:]
		}
	}
	return s, ""
}

// exponent reads all of s, that may be empty, as the end of a number.
func exponent(s string) (tens int, ok bool) {
	if s == "" {
		return 0, true
	}
	if s[0] != 'e' && s[0] != 'E' {
		return 0, false
	}
	s = s[1:]
	below := strings.HasPrefix(s, "-")
	if below || strings.HasPrefix(s, "+") {
		s = s[1:]
	}
	if len(s) < 1 || len(s) > 2 {
		return 0, false
	}
	for i := range len(s) {
		if !isDigit(s[i]) {
			return 0, false
		}
		tens = tens*10 + int(s[i]-'0')
	}
	if below {
		tens = -tens
	}
	return tens, true
}
