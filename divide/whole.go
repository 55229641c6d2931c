package divide

import (
	"bowdler/api"
	"bowdler/dec"
)

// Floor is the greatest whole number that is not above d.
func Floor(d api.Dec) (api.Dec, api.Errno) {
	return whole(d, d.Scale > 0 && d.Neg)
}

// Ceil is the least whole number that is not below d.
func Ceil(d api.Dec) (api.Dec, api.Errno) {
	return whole(d, d.Scale > 0 && !d.Neg)
}

// Round is the nearest whole number, the one farther from 0 of two that are as near.
func Round(d api.Dec) (api.Dec, api.Errno) {
	return whole(d, isHalfOrMore(d))
}

// Pow multiplies 1 by a, n times.
func Pow(a api.Dec, n int) (api.Dec, api.Errno) {
	if n < 0 || n > 99 {
		return api.Dec{}, api.ErrArg
	}
	power := dec.Int(1)
	for range n {
		next, e := dec.Mul(power, a)
		if e != api.OK {
			return api.Dec{}, e
		}
		power = next
	}
	return power, api.OK
}

// whole is what stands ahead of d's point, or the next whole number that is farther from 0. Of what may not be there is none, and so none that may be.
func whole(d api.Dec, farther bool) (api.Dec, api.Errno) {
	if !dec.May(d) {
		return api.Dec{}, api.ErrBig
	}
	ahead, e := decimal(d.Neg, d.Digits[:max(0, len(d.Digits)-d.Scale)], 0)
	if e != api.OK || !farther {
		return ahead, e
	}
	one := dec.Int(1)
	one.Neg = d.Neg
	return dec.Add(ahead, one)
}

// isHalfOrMore tells of what stands behind d's point: its first digit decides.
func isHalfOrMore(d api.Dec) bool {
	if d.Scale <= 0 || d.Scale > len(d.Digits) {
		return false
	}
	return d.Digits[len(d.Digits)-d.Scale] >= '5'
}
