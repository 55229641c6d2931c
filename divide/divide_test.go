package divide_test

import (
	"math"
	"math/big"
	"math/rand/v2"
	"strings"
	"testing"

	"bowdler/api"
	"bowdler/dec"
	"bowdler/divide"
)

var (
	nines   = strings.Repeat("9", 60)
	noughts = strings.Repeat("0", 60)
)

// none are values that are no decimal: the call that is asked must end, without a panic.
var none = []api.Dec{
	{}, {Neg: true}, {Scale: 1}, {Digits: "0", Neg: true}, {Digits: "0", Scale: 1}, {Digits: "00"}, {Digits: "01"}, {Digits: "10", Scale: 1}, {Digits: "1", Scale: -1}, {Digits: "1", Scale: 61}, {Digits: "1", Scale: math.MaxInt}, {Digits: "1", Scale: math.MinInt},
	{Digits: "a"}, {Digits: "1a1"}, {Digits: "-1"}, {Digits: "1.5"}, {Digits: "/"}, {Digits: ":", Scale: 1}, {Digits: "\x00"}, {Digits: "\xff", Scale: 1}, {Digits: nines + "9"}, {Digits: nines + "9", Scale: 60}, {Digits: strings.Repeat("1", 1<<16), Scale: 1 << 15},
}

// some are decimals of all kinds: small ones, edges of digits and scale, rows that are rounded into the next place.
func some(t *testing.T) []api.Dec {
	t.Helper()
	l := []api.Dec{{Digits: "0"}}
	for _, s := range []string{
		"1", "2", "3", "4", "5", "6", "7", "8", "9", "10", "11", "12", "99", "100", "101", "128", "1e10", "9223372036854775807", "18446744073709551616",
		"0.1", "0.2", "0.3", "0.4", "0.5", "0.6", "0.05", "0.49", "0.51", "0.99", "1.01", "1.5", "2.5", "3.5", "10.5", "99.5", "0.125", "0.001", "7.000001",
		nines, nines[1:], nines[:34], nines[:35], nines[:33] + "." + nines[:2], nines[1:] + ".9", nines[1:] + ".4", "9." + nines[1:], "0." + nines, "0.4" + nines[1:], "0.5" + noughts[2:] + "1", "0.49" + nines[2:],
		"1e33", "1e34", "1e35", "1e58", "1e59", "5e59", "1e-33", "1e-34", "1e-59", "1e-60", "2e-60", "9e-60", "3e-30", "3e-26", "3e-27", "1" + noughts[1:59] + "1", "1." + noughts[1:59] + "1", "1" + noughts[:33] + "5", "1" + noughts[:32] + "15", "1" + noughts[:33] + "5e-35", strings.Repeat("3", 60), strings.Repeat("6", 34) + "5",
	} {
		d := num(t, s)
		l = append(l, d)
		d.Neg = true
		l = append(l, d)
	}
	return l
}

// anyDec makes decimals of any digits and scales.
func anyDec(chance *rand.Rand) api.Dec {
	for {
		digits := make([]byte, 1+chance.IntN(60))
		for i := range digits {
			digits[i] = "0123456789990"[chance.IntN(13)]
		}
		d := api.Dec{Neg: chance.IntN(2) == 0, Digits: strings.TrimLeft(string(digits), "0"), Scale: chance.IntN(61) * chance.IntN(2)}
		if dec.May(d) {
			return d
		}
	}
}

// num is the decimal of a text.
func num(t *testing.T, s string) api.Dec {
	t.Helper()
	d, e := dec.Parse(s)
	if e != api.OK {
		t.Fatalf("no number for the test: %q: %d", s, e)
	}
	return d
}

// tens is ten n times by itself, or a tenth of that.
func tens(n int) *big.Rat {
	r := new(big.Rat).SetInt(new(big.Int).Exp(big.NewInt(10), big.NewInt(int64(max(n, -n))), nil))
	if n < 0 {
		r.Inv(r)
	}
	return r
}

// value is the number that a decimal is, worked out of its fields alone.
func value(t *testing.T, d api.Dec) *big.Rat {
	t.Helper()
	n, ok := new(big.Int).SetString(d.Digits, 10)
	if !ok {
		t.Fatalf("no digits: %+v", d)
	}
	if d.Neg {
		n.Neg(n)
	}
	return new(big.Rat).Mul(new(big.Rat).SetInt(n), tens(-d.Scale))
}

// wanted is the one decimal of a number, or the error if there is none.
func wanted(r *big.Rat) (api.Dec, api.Errno) {
	n := new(big.Rat).Set(r)
	for scale := 0; scale <= 60; scale++ {
		if n.IsInt() {
			digits := new(big.Int).Abs(n.Num()).String()
			if len(digits) > 60 {
				break
			}
			return api.Dec{Neg: n.Sign() < 0, Digits: digits, Scale: scale}, api.OK
		}
		n.Mul(n, big.NewRat(10, 1))
	}
	return api.Dec{}, api.ErrBig
}

// floorOf is the greatest whole number that is not above r.
func floorOf(r *big.Rat) *big.Rat {
	n, left := new(big.Int).DivMod(r.Num(), r.Denom(), new(big.Int))
	if left.Sign() < 0 {
		panic("Euclid's rest is below 0")
	}
	return new(big.Rat).SetInt(n)
}

// ceilOf is the least whole number that is not below r.
func ceilOf(r *big.Rat) *big.Rat {
	n := floorOf(new(big.Rat).Neg(r))
	return n.Neg(n)
}

// rounded is the number of 34 digits that is nearest to r, the even one of two.
func rounded(r *big.Rat) *big.Rat {
	if r.Sign() == 0 {
		return r
	}
	size := new(big.Rat).Abs(r)
	move := 0 // so many tens bring the 34th digit just ahead of the point
	for size.Cmp(tens(34)) >= 0 {
		size.Mul(size, tens(-1))
		move--
	}
	for size.Cmp(tens(33)) < 0 {
		size.Mul(size, tens(1))
		move++
	}
	n := floorOf(size)
	behind := new(big.Rat).Sub(size, n).Cmp(big.NewRat(1, 2))
	if behind > 0 || behind == 0 && n.Num().Bit(0) == 1 {
		n.Add(n, big.NewRat(1, 1))
	}
	if r.Sign() < 0 {
		n.Neg(n)
	}
	return n.Mul(n, tens(-move))
}

// check holds one answer against what is wanted.
func check(t *testing.T, name string, d api.Dec, e api.Errno, want *big.Rat) {
	t.Helper()
	if w, code := wanted(want); d != w || e != code {
		t.Errorf("%s: %+v, %d; wanted %+v, %d", name, d, e, w, code)
	}
}

// checkTwo holds Div and Mod of two against exact fractions, and what P2.3 says of Mod.
func checkTwo(t *testing.T, a, b api.Dec) {
	t.Helper()
	of := dec.Print(a) + ", " + dec.Print(b)
	q, e := divide.Div(a, b)
	m, f := divide.Mod(a, b)
	if b.Digits == "0" {
		if q != (api.Dec{}) || m != (api.Dec{}) || e != api.ErrZero || f != api.ErrZero {
			t.Errorf("divided by 0: %s: %+v, %d; %+v, %d", of, q, e, m, f)
		}
		return
	}
	x, y := value(t, a), value(t, b)
	quotient := new(big.Rat).Quo(x, y)
	check(t, "Div "+of, q, e, rounded(quotient))
	often := floorOf(quotient)
	if quotient.Sign() < 0 {
		often = ceilOf(quotient)
	}
	check(t, "Mod "+of, m, f, new(big.Rat).Sub(x, often.Mul(often, y)))
	if f == api.OK && (new(big.Rat).Abs(value(t, m)).Cmp(new(big.Rat).Abs(y)) >= 0 || m.Digits != "0" && m.Neg != a.Neg) {
		t.Errorf("Mod %s: %+v", of, m)
	}
}

// checkWhole holds Floor, Ceil and Round of one against exact fractions, and what P2.3 says of them.
func checkWhole(t *testing.T, d api.Dec) {
	t.Helper()
	of := dec.Print(d)
	x := value(t, d)
	floor, e := divide.Floor(d)
	check(t, "Floor "+of, floor, e, floorOf(x))
	ceil, f := divide.Ceil(d)
	check(t, "Ceil "+of, ceil, f, ceilOf(x))
	round, g := divide.Round(d)
	want := floorOf(new(big.Rat).Add(new(big.Rat).Abs(x), big.NewRat(1, 2)))
	if x.Sign() < 0 {
		want.Neg(want)
	}
	check(t, "Round "+of, round, g, want)
	if e != api.OK || f != api.OK {
		return
	}
	apart, _ := dec.Sub(ceil, floor)
	same := dec.Cmp(ceil, floor) == 0
	if dec.Cmp(floor, d) > 0 || dec.Cmp(ceil, d) < 0 || !same && apart != dec.Int(1) || same != (d.Scale == 0) {
		t.Errorf("%s: Floor %+v, Ceil %+v", of, floor, ceil)
	}
}

// P2.1, P2.3: each decimal of some with each.
func TestTwo(t *testing.T) {
	l := some(t)
	for _, a := range l {
		for _, b := range l {
			checkTwo(t, a, b)
		}
	}
}

// P2.1, P2.3: decimals of any digits, and numbers that are just, or nearly, so many times others; the row is the same in each run.
func TestTwoOfAnyDigits(t *testing.T) {
	chance := rand.New(rand.NewPCG(2, 1))
	for range 2000 {
		a, b := anyDec(chance), anyDec(chance)
		checkTwo(t, a, b)
		times, e := dec.Mul(b, dec.Int(chance.IntN(1000)))
		if e != api.OK {
			continue
		}
		checkTwo(t, times, b)
		if near, e := dec.Sub(times, api.Dec{Digits: "1", Scale: b.Scale}); e == api.OK {
			checkTwo(t, near, b)
		}
	}
}

// P2.1: quotients that lie just between two numbers of 34 digits, or next to that, at all scales.
func TestDivBetween(t *testing.T) {
	chance := rand.New(rand.NewPCG(3, 4))
	for range 800 {
		digits := []byte{"123456789"[chance.IntN(9)]}
		for range 33 {
			digits = append(digits, "0123456789999"[chance.IntN(13)])
		}
		for _, end := range []string{"", "4", "5", "6", "49", "50", "51", "5" + noughts[:20] + "1", "4" + nines[:21]} {
			s := strings.TrimRight(string(digits)+end, "0")
			a := api.Dec{Digits: s, Scale: chance.IntN(61), Neg: chance.IntN(2) == 0}
			b := []api.Dec{{Digits: "1"}, {Digits: "10"}, {Digits: "1", Scale: 7}, {Neg: true, Digits: "2"}, {Digits: "4"}, {Digits: "5", Scale: 60}, {Digits: "16"}}[chance.IntN(7)]
			checkTwo(t, a, b)
		}
	}
}

// P2.1: what is written out here is the document's own, or worked out by hand.
func TestDiv(t *testing.T) {
	half := "1" + noughts[:33]
	for _, c := range []struct{ a, b, want string }{
		{"1", "8", "0.125"}, {"2", "3", "0.6666666666666666666666666666666667"}, {"1", "3", "0.3333333333333333333333333333333333"}, {"-1", "3", "-0.3333333333333333333333333333333333"}, {"2", "-3", "-0.6666666666666666666666666666666667"}, {"-2", "-3", "0.6666666666666666666666666666666667"},
		{"0", "7", "0"}, {"0", "-7", "0"}, {"0", "1e-60", "0"}, {"6", "3", "2"}, {"1", "1000", "0.001"}, {"0.3", "0.1", "3"}, {"1", "0.001", "1000"}, {"7", "7", "1"}, {"-0.06", "20", "-0.003"},
		{"20", "3", "6.666666666666666666666666666666667"}, {"1e40", "3", "3333333333333333333333333333333333" + noughts[:6]}, {"1e40", "1", "1e40"}, {"1e59", "1", "1e59"}, {"1", "1e59", "1e-59"}, {"1", "30", "0.03333333333333333333333333333333333"},
		{nines[:34], "1", nines[:34]}, {nines[:34], "-10", "-" + nines[:33] + ".9"}, {nines[:34] + "e-60", "1", nines[:34] + "e-60"}, {nines[:35], "1", "1e35"}, {nines[1:], "1", "1e59"}, {nines[:35], "1e36", "0.1"}, {"0." + nines, "1", "1"}, {"-0." + nines, "1", "-1"},
		{half + "5", "10", half}, {half[:33] + "15", "10", half[:33] + "2"}, {half[:33] + "25", "10", half[:33] + "2"}, {half[:33] + "35", "-10", "-" + half[:33] + "4"}, {half + "5", "1", half + "0"}, {half + "6", "10", half[:33] + "1"}, {half + "4", "10", half}, {nines[:34] + "5", "1", "1e35"}, {nines[:33] + "85", "1", nines[:33] + "80"},
		{half + "5" + noughts[:24] + "1", "1", half[:33] + "1" + noughts[:26]}, {half + "4" + nines[:25], "1", half + noughts[:26]}, {half + "5" + noughts[:25], "1", half + noughts[:26]},
		{"1e-60", "1e-60", "1"}, {"1e59", "1e59", "1"}, {"1e-26", "3", "3333333333333333333333333333333333e-60"}, {"1e59", "3", "3333333333333333333333333333333333" + noughts[:25]}, {"1e-1", "1e-60", "1e59"}, {"1e-60", "0.5", "2e-60"}, {"1", nines, "1e-60"}, {"3", nines, "3e-60"},
	} {
		if q, e := divide.Div(num(t, c.a), num(t, c.b)); q != num(t, c.want) || e != api.OK {
			t.Errorf("Div(%s, %s): %s, %d; wanted %s", c.a, c.b, dec.Print(q), e, c.want)
		}
	}
}

// P2.1: quotients that may not be: too great, or with too much behind the point.
func TestDivTooBig(t *testing.T) {
	for _, c := range [][2]string{
		{"1e59", "0.1"}, {"-1e59", "0.1"}, {"1", "1e-60"}, {"1e59", "1e-60"}, {nines, "1"}, {nines, "-1"}, {"9e59", "0.9"}, {"1e-60", "2"}, {"1e-60", "10"}, {"1e-60", "1e59"}, {"1e-60", nines}, {"1e-27", "3"}, {"-1e-60", "3"}, {"1", "8" + nines[1:]}, {nines[:34] + "e-60", "10"},
	} {
		if q, e := divide.Div(num(t, c[0]), num(t, c[1])); q != (api.Dec{}) || e != api.ErrBig {
			t.Errorf("Div(%s, %s): %+v, %d", c[0], c[1], q, e)
		}
	}
}

// P2.1: signs, and unlike scales.
func TestMod(t *testing.T) {
	for _, c := range []struct{ a, b, want string }{
		{"-7", "2.5", "-2"}, {"7", "2.5", "2"}, {"7", "-2.5", "2"}, {"-7", "-2.5", "-2"}, {"7", "7", "0"}, {"-7", "7", "0"}, {"0", "-5", "0"}, {"6", "3", "0"}, {"-6", "3", "0"}, {"5", "7", "5"}, {"-5", "7", "-5"}, {"7", "5", "2"},
		{"0.3", "0.1", "0"}, {"1", "0.3", "0.1"}, {"-1", "0.3", "-0.1"}, {"5.5", "2", "1.5"}, {"1.25", "0.5", "0.25"}, {"100", "0.07", "0.04"}, {"0.05", "100", "0.05"}, {"10", "9.99", "0.01"}, {"3", "1.0000001", "0.9999998"}, {"1000", "1", "0"}, {"1000.001", "10", "0.001"},
		{nines, "1e-60", "0"}, {"1e-60", nines, "1e-60"}, {"-1e-60", "1", "-1e-60"}, {nines, "1e59", nines[1:]}, {nines, nines[1:] + "8", "1"}, {"1e59", "7e-60", "5e-60"}, {"0." + nines, "2e-60", "1e-60"}, {"1e59", "3", "1"}, {"2e59", "-3", "2"}, {"1e59", "0.3", "0.1"},
	} {
		if m, e := divide.Mod(num(t, c.a), num(t, c.b)); m != num(t, c.want) || e != api.OK {
			t.Errorf("Mod(%s, %s): %s, %d; wanted %s", c.a, c.b, dec.Print(m), e, c.want)
		}
	}
}

// P2.1: nothing is divided by 0, not even 0.
func TestDividedByZero(t *testing.T) {
	for _, a := range some(t) {
		checkTwo(t, a, api.Dec{Digits: "0"})
	}
}

// P2.2, P2.3
func TestWholeOfSome(t *testing.T) {
	for _, d := range some(t) {
		checkWhole(t, d)
	}
	chance := rand.New(rand.NewPCG(5, 6))
	for range 4000 {
		checkWhole(t, anyDec(chance))
	}
	for n := -300; n <= 300; n++ {
		near, _ := divide.Div(dec.Int(n), dec.Int(100))
		checkWhole(t, near)
	}
}

// P2.2: what is written out here is the document's own, or worked out by hand.
func TestWhole(t *testing.T) {
	for d, want := range map[string][3]string{
		"0": {"0", "0", "0"}, "7": {"7", "7", "7"}, "-7": {"-7", "-7", "-7"}, "100": {"100", "100", "100"}, nines: {nines, nines, nines}, "-" + nines: {"-" + nines, "-" + nines, "-" + nines},
		"2.5": {"2", "3", "3"}, "-2.5": {"-3", "-2", "-3"}, "3.5": {"3", "4", "4"}, "-3.5": {"-4", "-3", "-4"}, "2.4": {"2", "3", "2"}, "-2.4": {"-3", "-2", "-2"}, "2.6": {"2", "3", "3"}, "-2.6": {"-3", "-2", "-3"},
		"0.5": {"0", "1", "1"}, "-0.5": {"-1", "0", "-1"}, "0.4": {"0", "1", "0"}, "-0.4": {"-1", "0", "0"}, "0.05": {"0", "1", "0"}, "-0.05": {"-1", "0", "0"}, "0.09": {"0", "1", "0"}, "0.49" + nines[2:]: {"0", "1", "0"}, "0.5" + noughts[2:] + "1": {"0", "1", "1"}, "-0.49" + nines[2:]: {"-1", "0", "0"},
		"9.5": {"9", "10", "10"}, "-9.9": {"-10", "-9", "-10"}, "99.01": {"99", "100", "99"}, "10.01": {"10", "11", "10"}, "-10.99": {"-11", "-10", "-11"}, "0." + nines: {"0", "1", "1"}, "-0." + nines: {"-1", "0", "-1"}, "1e-60": {"0", "1", "0"}, "-1e-60": {"-1", "0", "0"}, "9e-60": {"0", "1", "0"},
		nines[1:] + ".9": {nines[1:], "1e59", "1e59"}, "-" + nines[1:] + ".5": {"-1e59", "-" + nines[1:], "-1e59"}, nines[1:] + ".4": {nines[1:], "1e59", nines[1:]}, "1" + noughts[2:] + ".1": {"1e58", "1" + noughts[3:] + "1", "1e58"},
	} {
		n := num(t, d)
		for i, do := range []func(api.Dec) (api.Dec, api.Errno){divide.Floor, divide.Ceil, divide.Round} {
			if got, e := do(n); got != num(t, want[i]) || e != api.OK {
				t.Errorf("%s: call %d: %+v, %d; wanted %s", d, i, got, e, want[i])
			}
		}
	}
}

// P2.2: the document's edges, and the order of the errors.
func TestPow(t *testing.T) {
	for _, c := range []struct {
		a    string
		n    int
		want string
	}{
		{"0", 0, "1"}, {"0", 1, "0"}, {"0", 99, "0"}, {"1", 0, "1"}, {"1", 99, "1"}, {"-1", 98, "1"}, {"-1", 99, "-1"}, {"7.5", 0, "1"}, {"-7.5", 1, "-7.5"}, {"1.5", 2, "2.25"}, {"-0.2", 3, "-0.008"}, {"-0.2", 4, "0.0016"}, {nines, 0, "1"}, {nines, 1, nines}, {"-1e-60", 1, "-1e-60"},
		{"2", 10, "1024"}, {"2", 99, "633825300114114700748351602688"}, {"-2", 99, "-633825300114114700748351602688"}, {"4", 99, "401734511064747568885490523085290650630550748445698208825344"}, {"10", 59, "1e59"}, {"0.1", 60, "1e-60"}, {"0.5", 60, "867361737988403547205962240695953369140625e-60"}, {"1e30", 1, "1e30"}, {"1e-30", 2, "1e-60"},
	} {
		if p, e := divide.Pow(num(t, c.a), c.n); p != num(t, c.want) || e != api.OK {
			t.Errorf("Pow(%s, %d): %+v, %d; wanted %s", c.a, c.n, p, e, c.want)
		}
	}
	for _, c := range []struct {
		a    string
		n    int
		code api.Errno
	}{
		{"0", -1, api.ErrArg}, {"0", 100, api.ErrArg}, {"1", -1, api.ErrArg}, {"1", 100, api.ErrArg}, {"1", math.MinInt, api.ErrArg}, {"1", math.MaxInt, api.ErrArg}, {"1", 1 << 32, api.ErrArg}, {"10", 100, api.ErrArg}, {nines, -1, api.ErrArg}, {nines, 100, api.ErrArg},
		{"10", 60, api.ErrBig}, {"10", 99, api.ErrBig}, {"-10", 60, api.ErrBig}, {"0.1", 61, api.ErrBig}, {"0.5", 61, api.ErrBig}, {"0.5", 99, api.ErrBig}, {"5", 99, api.ErrBig}, {nines, 2, api.ErrBig}, {"1e-60", 2, api.ErrBig}, {"1.5", 99, api.ErrBig},
	} {
		if p, e := divide.Pow(num(t, c.a), c.n); p != (api.Dec{}) || e != c.code {
			t.Errorf("Pow(%s, %d): %+v, %d; wanted %d", c.a, c.n, p, e, c.code)
		}
	}
}

// P2.2: each power is the one before it, multiplied once more, and the first error stands.
func TestPowOfSome(t *testing.T) {
	for _, a := range some(t) {
		product, code := api.Dec{Digits: "1"}, api.OK
		for n := range 100 {
			if p, e := divide.Pow(a, n); p != product || e != code {
				t.Fatalf("Pow(%s, %d): %+v, %d; wanted %+v, %d", dec.Print(a), n, p, e, product, code)
			}
			if code == api.OK {
				product, code = wanted(new(big.Rat).Mul(value(t, product), value(t, a)))
			}
		}
	}
}

// R1, R2: what may not be makes no panic, and no decimal.
func TestWrong(t *testing.T) {
	right := append([]api.Dec{{Digits: "1"}, {Neg: true, Digits: "15", Scale: 1}, {Digits: nines}}, none...)
	for _, a := range none {
		for _, b := range right {
			for name, do := range map[string]func(a, b api.Dec) (api.Dec, api.Errno){"Div": divide.Div, "Mod": divide.Mod} {
				d, e := do(a, b)
				f, g := do(b, a)
				if d != (api.Dec{}) || f != d || e == api.OK || g == api.OK {
					t.Errorf("%s of %+v, %+v: %+v, %d; %+v, %d", name, a, b, d, e, f, g)
				}
			}
		}
		for name, do := range map[string]func(api.Dec) (api.Dec, api.Errno){"Floor": divide.Floor, "Ceil": divide.Ceil, "Round": divide.Round} {
			if d, e := do(a); d != (api.Dec{}) || e != api.ErrBig {
				t.Errorf("%s of %+v: %+v, %d", name, a, d, e)
			}
		}
		if d, e := divide.Pow(a, 1); d != (api.Dec{}) || e != api.ErrBig {
			t.Errorf("Pow of %+v: %+v, %d", a, d, e)
		}
		if d, e := divide.Pow(a, -1); d != (api.Dec{}) || e != api.ErrArg {
			t.Errorf("Pow of %+v: %+v, %d", a, d, e)
		}
		if d, e := divide.Div(a, api.Dec{Digits: "0"}); d != (api.Dec{}) || e != api.ErrZero {
			t.Errorf("%+v divided by 0: %+v, %d", a, d, e)
		}
	}
}
