// Package dec is layer 1: decimals: see shared/doc/01-dec.md.
package dec

import (
	"bytes"
	"strconv"
	"strings"

	"bowdler/api"
)

// May tells whether d is the one way in which its number is written.
func May(d api.Dec) bool {
	count := len(d.Digits)
	if count < 1 || count > api.MaxDigits || d.Scale < 0 || d.Scale > api.MaxDigits {
		return false
	}
	for i := range count {
		if !isDigit(d.Digits[i]) {
			return false
		}
	}
	if d.Digits == "0" {
		return d.Scale == 0 && !d.Neg
	}
	return d.Digits[0] != '0' && (d.Scale == 0 || d.Digits[count-1] != '0')
}

// Print writes d without an exponent; what may not be is written as nothing.
func Print(d api.Dec) string {
	if !May(d) {
		return ""
	}
	point := len(d.Digits) - d.Scale
	var text strings.Builder
	if d.Neg {
		text.WriteByte('-')
	}
	if point <= 0 {
		text.WriteString("0." + strings.Repeat("0", -point) + d.Digits)
		return text.String()
	}
	text.WriteString(d.Digits[:point])
	if d.Scale > 0 {
		text.WriteString("." + d.Digits[point:])
	}
	return text.String()
}

// Int is the decimal of a whole number.
func Int(n int) api.Dec {
	digits, neg := strings.CutPrefix(strconv.Itoa(n), "-")
	return api.Dec{Neg: neg, Digits: digits}
}

// fit makes the decimal of digits, of which scale stand behind the point (below 0: so many noughts are behind them).
func fit(neg bool, digits []byte, scale int) (api.Dec, api.Errno) {
	digits = bytes.TrimLeft(digits, "0")
	if len(digits) == 0 {
		return api.Dec{Digits: "0"}, api.OK
	}
	kept := bytes.TrimRight(digits, "0")
	scale -= len(digits) - len(kept)
	noughts := max(0, -scale)
	if scale > api.MaxDigits || len(kept)+noughts > api.MaxDigits {
		return api.Dec{}, api.ErrBig
	}
	whole := string(kept) + strings.Repeat("0", noughts)
	return api.Dec{Neg: neg, Digits: whole, Scale: max(0, scale)}, api.OK
}

func isDigit(c byte) bool { return '0' <= c && c <= '9' }
