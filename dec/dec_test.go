package dec_test

import (
	"math"
	"math/big"
	"math/rand/v2"
	"regexp"
	"strconv"
	"strings"
	"testing"

	"bowdler/api"
	"bowdler/dec"
)

// none are values that are no decimal: the call that is asked must end, without a panic.
var none = []api.Dec{
	{}, {Neg: true}, {Scale: 1}, {Digits: "0", Neg: true}, {Digits: "0", Scale: 1}, {Digits: "00"}, {Digits: "01"}, {Digits: "001", Scale: 2},
	{Digits: "10", Scale: 1}, {Digits: "100", Scale: 60}, {Digits: "1", Scale: -1}, {Digits: "1", Scale: 61}, {Digits: "1", Scale: math.MaxInt}, {Digits: "1", Scale: math.MinInt},
	{Digits: "a"}, {Digits: "1a1"}, {Digits: "-1"}, {Digits: "1.5"}, {Digits: "1 "}, {Digits: "/"}, {Digits: ":"}, {Digits: "1/", Scale: 1}, {Digits: "1:"}, {Digits: "\x00"}, {Digits: "\xff"}, {Digits: "٣"},
	{Digits: strings.Repeat("9", 61)}, {Digits: strings.Repeat("9", 61), Scale: 60}, {Digits: "1" + strings.Repeat("0", 60)}, {Digits: strings.Repeat("0", 60)}, {Digits: strings.Repeat("1", 1<<16)},
}

// some are decimals of all kinds: small ones, edges of digits and scale, row upon row of carries.
func some() []api.Dec {
	nines, ones, ten := strings.Repeat("9", 60), strings.Repeat("1", 60), "1"+strings.Repeat("0", 59)
	l := []api.Dec{{Digits: "0"}}
	for _, d := range []api.Dec{
		{Digits: "1"}, {Digits: "2"}, {Digits: "5"}, {Digits: "9"}, {Digits: "10"}, {Digits: "11"}, {Digits: "99"}, {Digits: "100"}, {Digits: "101"}, {Digits: "999999999999"},
		{Digits: "1", Scale: 1}, {Digits: "2", Scale: 1}, {Digits: "5", Scale: 1}, {Digits: "15", Scale: 1}, {Digits: "105", Scale: 1}, {Digits: "1", Scale: 2}, {Digits: "25", Scale: 2}, {Digits: "125", Scale: 3}, {Digits: "99", Scale: 2}, {Digits: "1001", Scale: 3},
		{Digits: "9223372036854775807"}, {Digits: "9223372036854775808"}, {Digits: "18446744073709551616"},
		{Digits: "1" + strings.Repeat("0", 30)}, {Digits: strings.Repeat("9", 30)}, {Digits: strings.Repeat("9", 30), Scale: 30}, {Digits: strings.Repeat("9", 31), Scale: 30}, {Digits: "1", Scale: 30}, {Digits: "2", Scale: 30}, {Digits: "5", Scale: 30}, {Digits: "1", Scale: 31},
		{Digits: nines}, {Digits: nines, Scale: 1}, {Digits: nines, Scale: 30}, {Digits: nines, Scale: 59}, {Digits: nines, Scale: 60}, {Digits: nines[1:]}, {Digits: nines[1:], Scale: 1}, {Digits: nines[1:], Scale: 60},
		{Digits: ones}, {Digits: ones, Scale: 60}, {Digits: ten}, {Digits: "5" + ten[1:]}, {Digits: ten[:59]}, {Digits: ten[:59] + "1"}, {Digits: ten[:59] + "1", Scale: 59}, {Digits: ten[:59] + "1", Scale: 60},
		{Digits: "1", Scale: 60}, {Digits: "2", Scale: 60}, {Digits: "5", Scale: 60}, {Digits: "9", Scale: 60}, {Digits: "1", Scale: 59}, {Digits: "9", Scale: 59},
	} {
		l = append(l, d)
		d.Neg = true
		l = append(l, d)
	}
	return l
}

// value is the number that a decimal is, worked out of its fields alone.
func value(t *testing.T, d api.Dec) *big.Rat {
	t.Helper()
	n, ok := new(big.Int).SetString(d.Digits, 10)
	if !ok {
		t.Fatalf("no digits: %+v", d)
	}
	if d.Neg {
		n.Neg(n)
	}
	return new(big.Rat).SetFrac(n, new(big.Int).Exp(big.NewInt(10), big.NewInt(int64(d.Scale)), nil))
}

// wanted is the one decimal of a number, or the error if there is none.
func wanted(r *big.Rat) (api.Dec, api.Errno) {
	ten := big.NewRat(10, 1)
	n := new(big.Rat).Set(r)
	for scale := 0; scale <= 60; scale++ {
		if n.IsInt() {
			digits := new(big.Int).Abs(n.Num()).String()
			if len(digits) > 60 {
				break
			}
			return api.Dec{Neg: n.Sign() < 0, Digits: digits, Scale: scale}, api.OK
		}
		n.Mul(n, ten)
	}
	return api.Dec{}, api.ErrBig
}

// P1.1
func TestMay(t *testing.T) {
	for _, d := range some() {
		if !dec.May(d) {
			t.Errorf("May(%+v): false", d)
		}
	}
	for _, d := range none {
		if dec.May(d) {
			t.Errorf("May(%+v): true", d)
		}
		d.Neg = !d.Neg
		if d != (api.Dec{Digits: "0"}) && dec.May(d) {
			t.Errorf("May(%+v): true", d)
		}
	}
	for c := range 256 {
		is := '0' <= c && c <= '9'
		for _, d := range []api.Dec{{Digits: "1" + string([]byte{byte(c)}) + "1"}, {Digits: "1" + string([]byte{byte(c)})}} {
			if dec.May(d) != is {
				t.Errorf("May(%+q): %v", d.Digits, !is)
			}
		}
	}
}

// P1.1: no number has two decimals that may be.
func TestMayIsOneOfEachNumber(t *testing.T) {
	seen := map[string]api.Dec{}
	for n := range 1200 {
		for scale := -1; scale <= 4; scale++ {
			for _, ahead := range []string{"", "0"} {
				for _, neg := range []bool{false, true} {
					d := api.Dec{Neg: neg, Digits: ahead + strconv.Itoa(n), Scale: scale}
					if !dec.May(d) {
						continue
					}
					of := value(t, d).RatString()
					if old, ok := seen[of]; ok {
						t.Errorf("both may be: %+v, %+v", old, d)
					}
					seen[of] = d
				}
			}
		}
	}
	if len(seen) < 2*1200 {
		t.Error("too few may be:", len(seen))
	}
}

var grammar = regexp.MustCompile(`\A-?(0|[1-9][0-9]*)(\.[0-9]+)?([eE][+-]?[0-9]{1,2})?\z`)

// checkParse holds what Parse tells of s against the grammar and exact fractions.
func checkParse(t *testing.T, s string) {
	t.Helper()
	want, code := api.Dec{}, api.ErrNumber
	if grammar.MatchString(s) {
		r, ok := new(big.Rat).SetString(s)
		if !ok {
			t.Fatalf("no number for the test: %q", s)
		}
		want, code = wanted(r)
	}
	if d, e := dec.Parse(s); d != want || e != code {
		t.Errorf("Parse(%q): %+v, %d; wanted %+v, %d", s, d, e, want, code)
	}
}

// P1.2: what is written out here is the document's own.
func TestParse(t *testing.T) {
	for s, want := range map[string]api.Dec{
		"0": {Digits: "0"}, "-0": {Digits: "0"}, "0.000": {Digits: "0"}, "-0.0e-99": {Digits: "0"}, "0e99": {Digits: "0"}, "0E+99": {Digits: "0"},
		"1.50e1": {Digits: "15"}, "1.50": {Digits: "15", Scale: 1}, "-1.50": {Neg: true, Digits: "15", Scale: 1}, "0.010": {Digits: "1", Scale: 2}, "100": {Digits: "100"}, "100.00": {Digits: "100"},
		"1e2": {Digits: "100"}, "1E2": {Digits: "100"}, "1e+2": {Digits: "100"}, "1e02": {Digits: "100"}, "1e-02": {Digits: "1", Scale: 2}, "1e-2": {Digits: "1", Scale: 2}, "1e0": {Digits: "1"}, "1e-00": {Digits: "1"},
		"120e-1": {Digits: "12"}, "125e-1": {Digits: "125", Scale: 1}, "0.05e1": {Digits: "5", Scale: 1}, "0.05e2": {Digits: "5"}, "0.05e3": {Digits: "50"},
		"1e59": {Digits: "1" + strings.Repeat("0", 59)}, "1e-60": {Digits: "1", Scale: 60},
	} {
		if d, e := dec.Parse(s); d != want || e != api.OK {
			t.Errorf("Parse(%q): %+v, %d; wanted %+v", s, d, e, want)
		}
		checkParse(t, s)
	}
}

// P1.2: the bounds of digits and scale, and noughts that do not count ahead and behind.
func TestParseBounds(t *testing.T) {
	nines, noughts := strings.Repeat("9", 60), strings.Repeat("0", 5000)
	for _, s := range []string{
		nines, nines + ".0", nines + "." + noughts, nines + "0e-1", nines + "e0", nines + noughts[:39] + "e-39", nines + "e-60", nines[:59] + ".9", nines[:1] + "." + nines[1:], "0." + nines, "0." + nines + noughts, "0." + nines + "e60",
		"0.0" + nines + "e1", "0." + noughts[:99] + nines + "e99", "1" + noughts[:59], "1" + noughts[:60] + "e-1", "1" + noughts[:158] + "e-99",
		"1e59", "10e58", "0.1e60", "1e-60", "10e-61", "100e-62", "0." + noughts[:59] + "1", "0." + noughts[:60] + "1e1", "0." + noughts, "0." + noughts + "e99", "0." + noughts + "e-99", "0e60", "0e-61",
	} {
		checkParse(t, s)
		checkParse(t, "-"+s)
		if _, e := dec.Parse(s); e != api.OK {
			t.Errorf("Parse(%q): %d", s, e)
		}
	}
	for _, s := range []string{
		nines + "9", nines + "0", nines + ".9", nines + "e1", nines + "." + noughts + "1", nines + "9e-1", nines + "e-61", "0." + nines + "9", "0." + noughts[:1] + nines, "9." + nines,
		"1" + noughts[:60], "1" + noughts[:159] + "e-99", "1" + noughts, "1" + noughts + "e-99", "1e60", "10e59", "1e99", "0.1e61", "1e-61", "10e-62", "1.1e-60", "1e-99", "0." + noughts + "1", "0." + noughts + "1e99",
		"1" + noughts[:59] + "." + noughts[:4] + "1",
	} {
		checkParse(t, s)
		checkParse(t, "-"+s)
		if d, e := dec.Parse(s); d != (api.Dec{}) || e != api.ErrBig {
			t.Errorf("Parse(%q): %+v, %d", s, d, e)
		}
	}
}

// P1.2: what is no number, also where it would be too big as well.
func TestParseWrong(t *testing.T) {
	long := strings.Repeat("9", 99)
	for _, s := range []string{
		"", "-", "+", "+1", "--1", "-+1", "01", "-01", "00", "-00", "00.5", "1.", "-1.", ".5", "-.5", ".", "0.", "1..5", "1.5.2", "1.-5", "e1", "-e1", ".e1", "1.e1", "1e", "1E", "1e+", "1e-", "1e--1", "1e+-1", "1e123", "1e001", "1e+000", "1e1.5", "1e1e1", "1ee1",
		" 1", "1 ", "1\n", "\n1", "- 1", "1 e1", "a", "0x10", "1_000", "1,5", "1/2", "Inf", "NaN", "1f", "1\x00", "\xff", "1\xff", "٣", "1٣", "−1", "1e٣",
		"0" + long, long + ".", long + "e", long + "e100", long + "a", "1e-100", "1e100", "/", ":", "1/", "1:", "1e/", "1e:", "1e1/", "1e1:", "1./", "1.:",
	} {
		checkParse(t, s)
		if d, e := dec.Parse(s); d != (api.Dec{}) || e != api.ErrNumber {
			t.Errorf("Parse(%q): %+v, %d", s, d, e)
		}
	}
}

// P1.2: all short texts of the bytes that numbers are made of.
func TestParseAllShort(t *testing.T) {
	const bytes = "-+.01eE9"
	rows := []string{""}
	for range 6 {
		var next []string
		for _, s := range rows {
			checkParse(t, s)
			for i := range len(bytes) {
				next = append(next, s+bytes[i:i+1])
			}
		}
		rows = next
	}
}

// P1.2
func TestPrint(t *testing.T) {
	nines, noughts := strings.Repeat("9", 60), strings.Repeat("0", 60)
	for want, d := range map[string]api.Dec{
		"0": {Digits: "0"}, "7": {Digits: "7"}, "-7": {Neg: true, Digits: "7"}, "100": {Digits: "100"}, "-100": {Neg: true, Digits: "100"}, "0.1": {Digits: "1", Scale: 1}, "-0.1": {Neg: true, Digits: "1", Scale: 1}, "0.01": {Digits: "1", Scale: 2}, "0.12": {Digits: "12", Scale: 2}, "1.2": {Digits: "12", Scale: 1},
		"-12.34": {Neg: true, Digits: "1234", Scale: 2}, "10.01": {Digits: "1001", Scale: 2}, nines: {Digits: nines}, "-0." + nines: {Neg: true, Digits: nines, Scale: 60}, "9." + nines[1:]: {Digits: nines, Scale: 59}, nines[1:] + ".9": {Digits: nines, Scale: 1}, "0." + noughts[1:] + "1": {Digits: "1", Scale: 60}, "1" + noughts[1:]: {Digits: "1" + noughts[1:]},
	} {
		if s := dec.Print(d); s != want {
			t.Errorf("Print(%+v): %q; wanted %q", d, s, want)
		}
	}
	for _, d := range none {
		if s := dec.Print(d); s != "" {
			t.Errorf("Print(%+v): %q", d, s)
		}
	}
}

// P1.2
func TestInt(t *testing.T) {
	l := []int{0, math.MinInt, math.MinInt + 1, math.MaxInt, math.MaxInt - 1, math.MinInt32, math.MaxUint32}
	for n := 1; n <= math.MaxInt/10; n *= 10 {
		l = append(l, n-1, n, n+1, 10-n, -n, 7*n, -3*n)
	}
	for _, n := range l {
		text := strconv.Itoa(n)
		want := api.Dec{Neg: n < 0, Digits: strings.TrimPrefix(text, "-")}
		if d := dec.Int(n); d != want || !dec.May(d) || dec.Print(d) != text {
			t.Errorf("Int(%d): %+v", n, d)
		}
	}
}

// checkTwo holds Add, Sub, Mul and Cmp of two against exact fractions, and what P1.4 says of them.
func checkTwo(t *testing.T, a, b api.Dec) {
	t.Helper()
	x, y := value(t, a), value(t, b)
	for _, c := range []struct {
		name string
		do   func(a, b api.Dec) (api.Dec, api.Errno)
		want *big.Rat
		back bool
	}{
		{"Add", dec.Add, new(big.Rat).Add(x, y), true}, {"Sub", dec.Sub, new(big.Rat).Sub(x, y), false}, {"Mul", dec.Mul, new(big.Rat).Mul(x, y), true},
	} {
		want, code := wanted(c.want)
		d, e := c.do(a, b)
		if d != want || e != code {
			t.Errorf("%s(%+v, %+v): %+v, %d; wanted %+v, %d", c.name, a, b, d, e, want, code)
		}
		if f, g := c.do(b, a); c.back && (f != d || g != e) {
			t.Errorf("%s(%+v, %+v) is not what it is the other way round", c.name, a, b)
		}
	}
	if got := dec.Cmp(a, b); got != x.Cmp(y) {
		t.Errorf("Cmp(%+v, %+v): %d", a, b, got)
	}
}

// P1.3, P1.4: each decimal of some with each.
func TestTwo(t *testing.T) {
	l := some()
	for _, a := range l {
		for _, b := range l {
			checkTwo(t, a, b)
		}
	}
}

// P1.3, P1.4: decimals of any digits; the row is the same in each run.
func TestTwoOfAnyDigits(t *testing.T) {
	chance := rand.New(rand.NewPCG(1, 2))
	next := func() api.Dec {
		for {
			digits := make([]byte, 1+chance.IntN(60))
			for i := range digits {
				digits[i] = "0123456789990"[chance.IntN(13)]
			}
			d := api.Dec{Neg: chance.IntN(2) == 0, Digits: string(digits), Scale: chance.IntN(61) * chance.IntN(2)}
			if fit, e := wanted(value(t, d)); e == api.OK {
				return fit
			}
		}
	}
	for range 4000 {
		a, b := next(), next()
		checkTwo(t, a, b)
		near, e := dec.Add(a, api.Dec{Digits: "1", Scale: a.Scale})
		if e == api.OK {
			checkTwo(t, a, near)
		}
		if d, e := dec.Parse(dec.Print(a)); d != a || e != api.OK {
			t.Errorf("printed and parsed: %+v, %+v, %d", a, d, e)
		}
	}
}

// P1.3: the document's examples, and the edges of what is too big.
func TestTwoExamples(t *testing.T) {
	nines, noughts := strings.Repeat("9", 60), strings.Repeat("0", 60)
	for _, c := range []struct {
		name string
		do   func(a, b api.Dec) (api.Dec, api.Errno)
		a, b string
		want string
		code api.Errno
	}{
		{"Add", dec.Add, "0.1", "0.2", "0.3", api.OK}, {"Mul", dec.Mul, "-0.5", "4", "-2", api.OK}, {"Add", dec.Add, "0", "-0.05", "-0.05", api.OK}, {"Sub", dec.Sub, "0", "0", "0", api.OK}, {"Sub", dec.Sub, "0", "5", "-5", api.OK}, {"Sub", dec.Sub, "-5", "-5", "0", api.OK}, {"Mul", dec.Mul, "-7", "0", "0", api.OK}, {"Mul", dec.Mul, "-7", "-0.1", "0.7", api.OK},
		{"Sub", dec.Sub, "1000", "0.001", "999.999", api.OK}, {"Add", dec.Add, "999.999", "0.001", "1000", api.OK},
		{"Add", dec.Add, nines, "1", "", api.ErrBig}, {"Sub", dec.Sub, "-" + nines, "1", "", api.ErrBig}, {"Add", dec.Add, nines, "-1", nines[1:] + "8", api.OK}, {"Add", dec.Add, nines, "0.1", "", api.ErrBig}, {"Add", dec.Add, "0." + nines, "0." + noughts[1:] + "1", "1", api.OK}, {"Add", dec.Add, "1", "0." + noughts[1:] + "1", "", api.ErrBig}, {"Add", dec.Add, "0." + noughts[1:] + "9", "0." + noughts[1:] + "1", "0." + noughts[2:] + "1", api.OK},
		{"Mul", dec.Mul, nines, "11", "", api.ErrBig}, {"Mul", dec.Mul, nines, "1", nines, api.OK}, {"Mul", dec.Mul, "1e30", "1e29", "1e59", api.OK}, {"Mul", dec.Mul, "1e30", "1e30", "", api.ErrBig}, {"Mul", dec.Mul, "1e-30", "1e-30", "1e-60", api.OK}, {"Mul", dec.Mul, "1e-30", "1e-31", "", api.ErrBig}, {"Mul", dec.Mul, "2e-60", "0.5", "1e-60", api.OK}, {"Mul", dec.Mul, "1e-60", "1e59", "0.1", api.OK}, {"Mul", dec.Mul, "1e-60", "0", "0", api.OK},
	} {
		a, _ := dec.Parse(c.a)
		b, _ := dec.Parse(c.b)
		want, _ := dec.Parse(c.want)
		if d, e := c.do(a, b); d != want || e != c.code {
			t.Errorf("%s(%s, %s): %+v, %d", c.name, c.a, c.b, d, e)
		}
	}
}

// P1.3 with what may not be: no panic, and no decimal.
func TestTwoWrong(t *testing.T) {
	right := append([]api.Dec{{Digits: "0"}, {Digits: "1"}, {Neg: true, Digits: "15", Scale: 1}}, none...)
	for _, a := range none {
		for _, b := range right {
			for name, do := range map[string]func(a, b api.Dec) (api.Dec, api.Errno){"Add": dec.Add, "Sub": dec.Sub, "Mul": dec.Mul} {
				d, e := do(a, b)
				f, g := do(b, a)
				if d != (api.Dec{}) || f != d || e != api.ErrBig || g != e {
					t.Errorf("%s of %+v, %+v: %+v, %d; %+v, %d", name, a, b, d, e, f, g)
				}
			}
			if dec.Cmp(a, b) != -dec.Cmp(b, a) {
				t.Errorf("Cmp of %+v, %+v is no order", a, b)
			}
		}
	}
}

// P1.3: a number is the same one, however many noughts it is written with.
func TestCmpOfNoughts(t *testing.T) {
	one := []api.Dec{{Digits: "1"}, {Digits: "10", Scale: 1}, {Digits: "0100", Scale: 2}, {Digits: "001"}}
	nought := []api.Dec{{Digits: "0"}, {Digits: "00"}, {Digits: "0", Scale: 5}, {Digits: "0", Neg: true}}
	for _, a := range one {
		for _, b := range one {
			if dec.Cmp(a, b) != 0 {
				t.Errorf("Cmp(%+v, %+v): %d", a, b, dec.Cmp(a, b))
			}
		}
		for _, b := range nought {
			if dec.Cmp(a, b) != 1 || dec.Cmp(b, a) != -1 || dec.Cmp(b, nought[0]) != 0 {
				t.Errorf("Cmp(%+v, %+v): %d", a, b, dec.Cmp(a, b))
			}
		}
	}
}

// P1.4
func TestPrintedIsParsed(t *testing.T) {
	for _, d := range some() {
		if got, e := dec.Parse(dec.Print(d)); got != d || e != api.OK {
			t.Errorf("%+v: %+v, %d", d, got, e)
		}
		if want := value(t, d); want.Sign() != 0 {
			r, ok := new(big.Rat).SetString(dec.Print(d))
			if !ok || r.Cmp(want) != 0 {
				t.Errorf("%+v: printed as %q", d, dec.Print(d))
			}
		}
	}
}
