package dec

import (
	"cmp"
	"math"
	"strings"

	"bowdler/api"
)

// Add is the sum. Of what may not be there is none, and so none that may be.
func Add(a, b api.Dec) (api.Dec, api.Errno) {
	if !May(a) || !May(b) {
		return api.Dec{}, api.ErrBig
	}
	sign := 1
	if a.Neg != b.Neg {
		sign = -1
		if compareSizes(a, b) < 0 {
			a, b = b, a
		}
	}
	scale := max(a.Scale, b.Scale)
	return fit(a.Neg, combine(a, b, sign, scale), scale)
}

// Sub is the first without the second.
func Sub(a, b api.Dec) (api.Dec, api.Errno) {
	if b.Digits != "0" {
		b.Neg = !b.Neg
	}
	return Add(a, b)
}

// Mul is the product. Of what may not be there is none, and so none that may be.
func Mul(a, b api.Dec) (api.Dec, api.Errno) {
	if !May(a) || !May(b) {
		return api.Dec{}, api.ErrBig
	}
	return fit(a.Neg != b.Neg, multiply(a.Digits, b.Digits), a.Scale+b.Scale)
}

// Cmp tells which one is the lesser.
func Cmp(a, b api.Dec) int {
	sa, sb := signOf(a), signOf(b)
	if sa != sb {
		return cmp.Compare(sa, sb)
	}
	return sa * compareSizes(a, b)
}

func signOf(d api.Dec) int {
	switch {
	case strings.Trim(d.Digits, "0") == "":
		return 0
	case d.Neg:
		return -1
	}
	return 1
}

// compareSizes is Cmp of both without Neg.
func compareSizes(a, b api.Dec) int {
	pa, da := size(a)
	pb, db := size(b)
	return cmp.Or(cmp.Compare(pa, pb), strings.Compare(da, db))
}

// size tells how far ahead of the point d begins, and its digits from there on: noughts on either side say nothing of how much it is.
func size(d api.Dec) (place int, digits string) {
	digits = strings.TrimLeft(d.Digits, "0")
	if digits == "" {
		return math.MinInt, "" // 0 begins behind all others
	}
	return len(digits) - d.Scale, strings.TrimRight(digits, "0")
}

// combine adds b to a sign times (1, or -1 where b is not the greater), without regard to Neg: digits of which scale stand behind the point.
func combine(a, b api.Dec, sign, scale int) []byte {
	moveA, moveB := scale-a.Scale, scale-b.Scale
	count := max(len(a.Digits)+moveA, len(b.Digits)+moveB) + 1
	digits := make([]byte, count)
	carry := 0
	for i := range count {
		t := digitAt(a.Digits, i-moveA) + sign*digitAt(b.Digits, i-moveB) + carry + 10 // the 10 keeps it above 0
		digits[count-1-i] = byte('0' + t%10)
		carry = t/10 - 1
	}
	return digits
}

// digitAt is the digit that has i others behind it; where there is none it is 0.
func digitAt(digits string, i int) int {
	if i < 0 || i >= len(digits) {
		return 0
	}
	return int(digits[len(digits)-1-i] - '0')
}

func multiply(a, b string) []byte {
	count := len(a) + len(b)
	sums := make([]int, count) // of each place, the lowest first
	for i := range len(a) {
		for j := range len(b) {
			sums[i+j] += digitAt(a, i) * digitAt(b, j)
		}
	}
	digits := make([]byte, count)
	carry := 0
	for i := range count {
		t := sums[i] + carry
		digits[count-1-i] = byte('0' + t%10)
		carry = t / 10
	}
	return digits
}
