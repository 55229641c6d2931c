package cats_test

import (
	"math"
	"regexp"
	"slices"
	"strconv"
	"strings"
	"testing"

	"bowdler/api"
	"bowdler/cats"
)

// namesTo are so many names, no two the same.
func namesTo(count int) []string {
	var l []string
	for i := range count {
		l = append(l, "c"+strconv.Itoa(i))
	}
	return l
}

// edgeBytes stand at both sides of each edge of what may be in a name, or are blanks of another kind, or no byte of UTF-8 by themselves.
const edgeBytes = "az`{09/:_^AZ@[ \t\n\r\v\f\x00.-$\"\x7f\x80\xa0\xc3\xa9\xff"

// rows are all rows of count edge bytes.
func rows(count int) []string {
	l := []string{""}
	for range count {
		var longer []string
		for _, s := range l {
			for i := range len(edgeBytes) {
				longer = append(longer, s+edgeBytes[i:i+1])
			}
		}
		l = longer
	}
	return l
}

// nameForm is P6.1's, but for the length.
var nameForm = regexp.MustCompile(`\A[a-z][a-z0-9_]*\z`)

// P6.1: each byte at the first place and at each other one, of names of all lengths.
func TestMayName(t *testing.T) {
	for length := 1; length <= 30; length++ {
		for place := range length {
			for b := range 256 {
				s := []byte(strings.Repeat("x", length))
				s[place] = byte(b)
				letter := b >= 'a' && b <= 'z'
				want := length <= 24 && (letter || place > 0 && (b >= '0' && b <= '9' || b == '_'))
				if cats.MayName(string(s)) != want {
					t.Errorf("MayName(%q) of %d bytes: %v", s, length, !want)
				}
			}
		}
	}
	for count := range 4 {
		for _, s := range rows(count) {
			if want := nameForm.MatchString(s); cats.MayName(s) != want {
				t.Errorf("MayName(%q): %v", s, !want)
			}
		}
	}
}

// P6.1: what is written out here was told by hand.
func TestMayNameByHand(t *testing.T) {
	for s, want := range map[string]bool{
		"a": true, "z": true, "pii": true, "a_1": true, "a9_": true, "a__": true, "z0": true, strings.Repeat("a", 24): true, "a" + strings.Repeat("9", 23): true,
		"": false, "_": false, "_a": false, "1": false, "1a": false, "A": false, "aB": false, "a b": false, " a": false, "a ": false, "a\n": false, "\na": false, "a\x00": false, "a-b": false, "a.b": false, "é": false, "aé": false, "a\xff": false, "\u0430": false, "\uff41": false, "a\u0660": false,
		strings.Repeat("a", 25): false, strings.Repeat("a", 23) + "é": false, strings.Repeat("a", 1<<20): false,
	} {
		if cats.MayName(s) != want {
			t.Errorf("MayName(%.40q): %v", s, !want)
		}
	}
}

// P6.1: as many as may be, and one more, which is told ahead of all else.
func TestMayOfHowMany(t *testing.T) {
	for count := range 70 {
		want := api.OK
		if count > 64 {
			want = api.ErrBig
		}
		if e := cats.May(namesTo(count)); e != want {
			t.Errorf("May of %d: %d", count, e)
		}
	}
	for _, l := range [][]string{make([]string, 65), slices.Repeat([]string{"a"}, 65), slices.Repeat([]string{"A"}, 100000), append(namesTo(64), ""), append(namesTo(64), "c0")} {
		if e := cats.May(l); e != api.ErrBig {
			t.Errorf("May of %d: %d", len(l), e)
		}
	}
	if e := cats.May(nil); e != api.OK {
		t.Error("May of nil:", e)
	}
}

// P6.1: one that may not be, and one that is there two times, at each place, of rows of all lengths.
func TestMayOfWhatMayNot(t *testing.T) {
	for count := 1; count <= 64; count++ {
		for place := range count {
			for _, wrong := range []string{"", "A", "_a", "1", "c 0", "c1 ", "é", "c\xff", strings.Repeat("c", 25)} {
				l := namesTo(count)
				l[place] = wrong
				if e := cats.May(l); e != api.ErrName {
					t.Fatalf("May of %d, %q at %d: %d", count, wrong, place, e)
				}
			}
			for other := range place {
				l := namesTo(count)
				l[place] = l[other]
				if e := cats.May(l); e != api.ErrName {
					t.Fatalf("May of %d, the same at %d and %d: %d", count, other, place, e)
				}
			}
			l := namesTo(count)
			l[place] = strings.Repeat("c", 24)
			if e := cats.May(l); e != api.OK {
				t.Fatalf("May of %d, 24 bytes at %d: %d", count, place, e)
			}
		}
	}
	for _, l := range [][]string{{"a", "a"}, {"a", "b", "a"}, {"A", "A"}, {"", ""}, {"a", "a", "a"}, {"a", "b", "b", "A"}} {
		if e := cats.May(l); e != api.ErrName {
			t.Errorf("May(%q): %d", l, e)
		}
	}
	for _, l := range [][]string{{"a", "aa"}, {"a", "a_", "a0"}, {"pii", "geo", "med"}} {
		if e := cats.May(l); e != api.OK {
			t.Errorf("May(%q): %d", l, e)
		}
	}
}

// isMask holds what Mask tells of s.
func isMask(t *testing.T, l []string, s string, want uint64, wantE api.Errno) {
	t.Helper()
	if mask, e := cats.Mask(l, s); mask != want || e != wantE {
		t.Errorf("Mask(%q, %.200q): %d, %d; wanted %d, %d", l, s, mask, e, want, wantE)
	}
}

// P6.2: what is written out here was told by hand, and the document's own.
func TestMask(t *testing.T) {
	l := []string{"pii", "geo", "med"}
	for s, want := range map[string]uint64{
		"med  pii": 5, "": 0, " ": 0, "    ": 0, "pii": 1, "geo": 2, "med": 4, " pii": 1, "pii ": 1, "   geo   ": 2, "pii geo med": 7, "med geo pii": 7, "geo med": 6, "med pii": 5, "geo geo": 2, "  geo  geo  pii geo ": 3,
	} {
		isMask(t, l, s, want, api.OK)
	}
	for _, s := range []string{
		"x", "pii x", "x pii", "pii x geo", "piigeo", "pi", "piii", "ii", "Pii", "PII", "pii,geo", "pii\tgeo", "pii\ngeo", "pii\n", "\tpii", "\t", "\n", "\r", "\v", "\x00", "pii\x00", "pii\u00a0geo", "\u00a0", "\u2003pii", "pii \xff", "\xff", "é", "\"pii\"", "pii  geo  me",
	} {
		isMask(t, l, s, 0, api.ErrName)
	}
	for _, s := range []string{"a", " a", "pii"} {
		isMask(t, nil, s, 0, api.ErrName)
	}
	for _, s := range []string{"", " ", "   "} {
		isMask(t, nil, s, 0, api.OK)
		isMask(t, []string{}, s, 0, api.OK)
	}
	isMask(t, []string{"a", "aa", "aaa"}, "aa", 2, api.OK)
	isMask(t, []string{"aaa", "aa", "a"}, "a aaa", 5, api.OK)
	isMask(t, l, strings.Repeat("pii med ", 1<<17), 5, api.OK)
	isMask(t, l, strings.Repeat(" ", 1<<20)+"geo", 2, api.OK)
	isMask(t, l, strings.Repeat("pii med ", 1<<17)+"y", 0, api.ErrName)
}

// maskOf is Mask byte by byte; the end of s ends a name as a blank does.
func maskOf(l []string, s string) (uint64, api.Errno) {
	var mask uint64
	name := ""
	for _, b := range []byte(s + " ") {
		if b != ' ' {
			name += string([]byte{b})
			continue
		}
		if name == "" {
			continue
		}
		place := slices.Index(l, name)
		if place < 0 {
			return 0, api.ErrName
		}
		mask |= uint64(math.Pow(2, float64(place)))
		name = ""
	}
	return mask, api.OK
}

// P6.2: each row of names, of what is none, and of blanks, up to five.
func TestMaskOfEachRow(t *testing.T) {
	l := []string{"a", "b", "ab", "ba"}
	texts := []string{""}
	for range 6 {
		var longer []string
		for _, s := range texts {
			mask, e := maskOf(l, s)
			isMask(t, l, s, mask, e)
			for _, next := range []string{"a", "b", " ", "\t", "ab"} {
				longer = append(longer, s+next)
			}
		}
		texts = longer
	}
}

// P6.2: each place has a bit of its own, also the 64th.
func TestEachBit(t *testing.T) {
	l := namesTo(64)
	bit := uint64(1)
	for place, name := range l {
		isMask(t, l, name, bit, api.OK)
		if got := cats.Names(l, bit); got != name {
			t.Errorf("Names of the bit at %d: %q", place, got)
		}
		if got := cats.Names(l[:place], bit); got != "" {
			t.Errorf("Names of %d, and the next one's bit: %q", place, got)
		}
		isMask(t, l[:place], name, 0, api.ErrName)
		bit += bit
	}
	isMask(t, l, strings.Join(l, " "), math.MaxUint64, api.OK)
	if got := cats.Names(l, math.MaxUint64); got != strings.Join(l, " ") {
		t.Errorf("Names of all: %q", got)
	}
}

// P6.2: what is written out here was told by hand.
func TestNames(t *testing.T) {
	l := []string{"pii", "geo", "med"}
	for mask, want := range map[uint64]string{
		0: "", 1: "pii", 2: "geo", 3: "pii geo", 4: "med", 5: "pii med", 6: "geo med", 7: "pii geo med", 8: "", 9: "pii", 15: "pii geo med", 1 << 63: "", math.MaxUint64: "pii geo med", math.MaxUint64 - 2: "pii med",
	} {
		if got := cats.Names(l, mask); got != want {
			t.Errorf("Names of %d: %q; wanted %q", mask, got, want)
		}
		for _, none := range [][]string{nil, {}} {
			if got := cats.Names(none, mask); got != "" {
				t.Errorf("Names of none, and %d: %q", mask, got)
			}
		}
	}
	if got := cats.Names([]string{"z", "a", "m"}, 7); got != "z a m" {
		t.Errorf("Names in their order: %q", got)
	}
}

// P6.2: the 65th and those behind it have no bit, so they are of no mask.
func TestBehindTheLastBit(t *testing.T) {
	for _, count := range []int{65, 66, 128, 129, 300} {
		l := namesTo(count)
		for _, mask := range []uint64{1, 2, 3, 1 << 63, math.MaxUint64} {
			if got, want := cats.Names(l, mask), cats.Names(l[:64], mask); got != want {
				t.Errorf("Names of %d, and %d: %q", count, mask, got)
			}
		}
		isMask(t, l, "c64 c"+strconv.Itoa(count-1), 0, api.OK)
	}
}

// Of categories with one name two times nothing is asked: the name stands for both, whichever comes first.
func TestMaskOfOneNameTwoTimes(t *testing.T) {
	isMask(t, []string{"a", "b", "a"}, "a", 5, api.OK)
	isMask(t, []string{"a", "b", "a"}, "b", 2, api.OK)
	isMask(t, []string{"", "a"}, "  ", 0, api.OK)
}

// anyMasks are masks of all kinds; the row is the same in each run.
func anyMasks() []uint64 {
	row := []uint64{0, 1, math.MaxUint64, 1 << 63, 1<<63 - 1, math.MaxUint32, math.MaxUint32 << 32}
	state := uint64(6)
	for range 500 {
		state = state*6364136223846793005 + 1442695040888963407
		row = append(row, state^state>>29, (state^state>>31)&(state<<17))
	}
	return row
}

// P6.3: of as many categories as there may be, and each number below.
func TestMaskOfNames(t *testing.T) {
	for count := range 65 {
		l := namesTo(count)
		var all uint64
		for range count {
			all = all*2 + 1
		}
		for _, mask := range anyMasks() {
			names := cats.Names(l, mask)
			isMask(t, l, names, mask&all, api.OK)
			isMask(t, l, "  "+strings.ReplaceAll(names, " ", "   ")+" ", mask&all, api.OK)
			words := strings.Fields(names)
			slices.Reverse(words)
			isMask(t, l, strings.Join(words, " "), mask&all, api.OK)
		}
	}
}

// P6.2
func TestWithin(t *testing.T) {
	for mask := range uint64(16) {
		for clear := range uint64(16) {
			want := true
			for _, bit := range []uint64{1, 2, 4, 8} {
				if mask/bit%2 == 1 && clear/bit%2 == 0 {
					want = false
				}
			}
			for _, up := range []int{0, 30, 31, 32, 60} {
				if cats.Within(mask<<up, clear<<up) != want || cats.Within(mask<<up, clear<<up|1<<20) != want {
					t.Errorf("Within(%d, %d), moved by %d: %v", mask, clear, up, !want)
				}
			}
		}
	}
	for _, mask := range anyMasks() {
		if !cats.Within(mask, mask) || !cats.Within(0, mask) || !cats.Within(mask, math.MaxUint64) || cats.Within(mask, 0) != (mask == 0) || cats.Within(math.MaxUint64, mask) != (mask == math.MaxUint64) {
			t.Errorf("Within of %d", mask)
		}
		for place := range 64 {
			if bit := uint64(1) << place; cats.Within(mask|bit, mask&^bit) {
				t.Errorf("Within(%d, %d)", mask|bit, mask&^bit)
			}
		}
	}
}

// R1, R7: of any categories, also ones that may not be, each call ends, and changes nothing, nor what is behind the end of a list.
func TestNothingIsChanged(t *testing.T) {
	for _, l := range [][]string{nil, {}, {""}, {"", ""}, {"a", "a"}, {"A", "\xff", "a b"}, namesTo(3), namesTo(64), namesTo(65), namesTo(200), make([]string, 70)} {
		room := append(slices.Clone(l), "behind", "the", "end")
		was := slices.Clone(room)
		l = room[:len(l)]
		cats.May(l)
		for _, s := range append(rows(1), "", "a", "a  a", "c1 c64 c199", "c2", "a b") {
			cats.MayName(s)
			if mask, e := cats.Mask(l, s); e != api.OK && mask != 0 {
				t.Errorf("Mask(%q, %q): %d beside %d", l, s, mask, e)
			}
		}
		for _, mask := range anyMasks() {
			cats.Names(l, mask)
		}
		if !slices.Equal(room, was) {
			t.Errorf("%q became %q", was, room)
		}
	}
}

// R6: called again, and behind other calls, each answers the same.
func TestAnswersAreTheSameAgain(t *testing.T) {
	l := namesTo(64)
	wrong := append(namesTo(62), "A", "c0")
	for range 200 {
		isMask(t, l, "c63 c0 c7", 1<<63|1<<7|1, api.OK)
		isMask(t, l, "c63 c64 x", 0, api.ErrName)
		if e := cats.May(wrong); e != api.ErrName {
			t.Fatal("May:", e)
		}
		if e := cats.May(l); e != api.OK {
			t.Fatal("May:", e)
		}
		if got := cats.Names(l, 1<<63|1<<7|1); got != "c0 c7 c63" {
			t.Fatal("Names:", got)
		}
	}
}
