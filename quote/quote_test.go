package quote_test

import (
	"math"
	"math/rand/v2"
	"slices"
	"strings"
	"testing"

	"bowdler/api"
	"bowdler/quote"
)

// pieces parts s into its runes, a byte that is no UTF-8 by itself, as Unicode's own table of well-formed rows of bytes has it; valid tells whether there was no such byte.
func pieces(s string) (parts []string, valid bool) {
	valid = true
	for s != "" {
		size := formed(s)
		if size == 0 {
			size, valid = 1, false
		}
		parts = append(parts, s[:size])
		s = s[size:]
	}
	return parts, valid
}

// formed is how many bytes the rune has that s begins with, 0 if it begins with none.
func formed(s string) int {
	for _, row := range [][]string{
		{"\x00\x7f"},
		{"\xc2\xdf", "\x80\xbf"},
		{"\xe0\xe0", "\xa0\xbf", "\x80\xbf"},
		{"\xe1\xec", "\x80\xbf", "\x80\xbf"},
		{"\xed\xed", "\x80\x9f", "\x80\xbf"},
		{"\xee\xef", "\x80\xbf", "\x80\xbf"},
		{"\xf0\xf0", "\x90\xbf", "\x80\xbf", "\x80\xbf"},
		{"\xf1\xf3", "\x80\xbf", "\x80\xbf", "\x80\xbf"},
		{"\xf4\xf4", "\x80\x8f", "\x80\xbf", "\x80\xbf"},
	} {
		fits := len(s) >= len(row)
		for i := 0; fits && i < len(row); i++ {
			fits = row[i][0] <= s[i] && s[i] <= row[i][1]
		}
		if fits {
			return len(row)
		}
	}
	return 0
}

// edgeBytes stand at both sides of each edge of UTF-8.
const edgeBytes = "\x00\x1f\x20\"\\a\x7e\x7f\x80\x8f\x90\x9f\xa0\xbf\xc0\xc1\xc2\xdf\xe0\xe1\xec\xed\xee\xef\xf0\xf1\xf3\xf4\xf5\xff"

// rows are all rows of count edge bytes.
func rows(count int) []string {
	l := []string{""}
	for range count {
		var longer []string
		for _, s := range l {
			for i := range len(edgeBytes) {
				longer = append(longer, s+edgeBytes[i:i+1])
			}
		}
		l = longer
	}
	return l
}

// checkRunes holds Valid, Runes and Cut of s against its pieces.
func checkRunes(t *testing.T, s string) {
	t.Helper()
	parts, valid := pieces(s)
	if quote.Valid(s) != valid || quote.Runes(s) != len(parts) {
		t.Fatalf("%+q: Valid %v, Runes %d; wanted %v, %d", s, quote.Valid(s), quote.Runes(s), valid, len(parts))
	}
	for from := -1; from <= len(parts)+1; from++ {
		for to := -1; to <= len(parts)+1; to++ {
			a := min(max(from, 0), len(parts))
			b := max(a, min(to, len(parts)))
			if cut, want := quote.Cut(s, from, to), strings.Join(parts[a:b], ""); cut != want {
				t.Fatalf("Cut(%+q, %d, %d): %+q; wanted %+q", s, from, to, cut, want)
			}
		}
	}
}

// P3.1: all texts of two bytes, and all of up to four edge bytes.
func TestRunesOfBytes(t *testing.T) {
	for i := range 256 {
		checkRunes(t, string([]byte{byte(i)}))
		for j := range 256 {
			checkRunes(t, string([]byte{byte(i), byte(j)}))
		}
	}
	for count := range 4 {
		for _, s := range rows(count) {
			checkRunes(t, s)
		}
	}
	for _, s := range rows(4) {
		parts, valid := pieces(s)
		if quote.Valid(s) != valid || quote.Runes(s) != len(parts) {
			t.Fatalf("%+q: Valid %v, Runes %d; wanted %v, %d", s, quote.Valid(s), quote.Runes(s), valid, len(parts))
		}
	}
}

// P3.1: what is written out here was counted by hand.
func TestRunes(t *testing.T) {
	for _, c := range []struct {
		s     string
		valid bool
		runes int
	}{
		{"", true, 0}, {"a", true, 1}, {"abc", true, 3}, {"\x00", true, 1}, {"\x7f", true, 1}, {"é", true, 1}, {"aéb", true, 3}, {"e\u0301", true, 2}, {"€", true, 1}, {"\U0001f600", true, 1}, {"\U0010ffff", true, 1}, {"\ufffd", true, 1}, {"\ud7ff\ue000", true, 2}, {"\ufeff", true, 1},
		{"\xff", false, 1}, {"a\xff", false, 2}, {"\xffa", false, 2}, {"\x80", false, 1}, {"\xc3", false, 1}, {"\xc3\xa9\xa9", false, 2}, {"\xe2\x82", false, 2}, {"\xe2\x82a", false, 3}, {"\xf0\x9f\x98", false, 3}, {"\xed\xa0\x80", false, 3}, {"\xed\xbf\xbf", false, 3}, {"\xf4\x90\x80\x80", false, 4}, {"\xc0\xaf", false, 2}, {"\xe0\x80\xaf", false, 3}, {"\xf8\x88\x80\x80\x80", false, 5}, {"aé\xff", false, 3},
	} {
		if quote.Valid(c.s) != c.valid || quote.Runes(c.s) != c.runes {
			t.Errorf("%+q: Valid %v, Runes %d", c.s, quote.Valid(c.s), quote.Runes(c.s))
		}
	}
}

// P3.1: what is written out here was cut by hand, the ends of all ints among the places.
func TestCut(t *testing.T) {
	const all = "aé€\U0001f600z"
	for _, c := range []struct {
		s        string
		from, to int
		want     string
	}{
		{all, 0, 5, all}, {all, 0, 1, "a"}, {all, 1, 2, "é"}, {all, 2, 4, "€\U0001f600"}, {all, 4, 5, "z"}, {all, 3, 3, ""}, {all, 5, 5, ""},
		{all, -1, 1, "a"}, {all, -9, 99, all}, {all, 4, 6, "z"}, {all, 5, 9, ""}, {all, 6, 9, ""}, {all, 3, 2, ""}, {all, 3, -1, ""}, {all, -3, -1, ""}, {all, -1, 0, ""}, {all, 9, 1, ""},
		{all, math.MinInt, math.MaxInt, all}, {all, math.MaxInt, math.MinInt, ""}, {all, math.MaxInt, math.MaxInt, ""}, {all, math.MinInt, math.MinInt, ""}, {all, 1, math.MaxInt, all[1:]}, {all, math.MinInt, 1, "a"},
		{"", 0, 0, ""}, {"", -1, 1, ""}, {"", 1, 2, ""}, {"\xff\xe2\x82é", 1, 4, "\xe2\x82é"}, {"\xff\xe2\x82é", 0, 2, "\xff\xe2"}, {"\xff\xe2\x82é", 3, 4, "é"},
	} {
		if cut := quote.Cut(c.s, c.from, c.to); cut != c.want {
			t.Errorf("Cut(%+q, %d, %d): %+q; wanted %+q", c.s, c.from, c.to, cut, c.want)
		}
	}
}

// written is how a rune stands in a quoted text.
func written(r rune) string {
	const low = "00 01 02 03 04 05 06 07 08 09 0a 0b 0c 0d 0e 0f 10 11 12 13 14 15 16 17 18 19 1a 1b 1c 1d 1e 1f"
	if signs := map[rune]string{34: `\"`, 92: `\\`, 10: `\n`, 13: `\r`, 9: `\t`, 127: `\u007f`}; signs[r] != "" {
		return signs[r]
	}
	if r < 32 {
		return `\u00` + strings.Fields(low)[r]
	}
	return string(r)
}

// P3.2, P3.3, P3.4: each rune there is, by itself and between others.
func TestQuoteOfEachRune(t *testing.T) {
	for r := rune(0); r <= 0x10ffff; r++ {
		if 0xd800 <= r && r <= 0xdfff {
			continue
		}
		between := "\"é" + string(r) + "\n" + string(r) + "z"
		for s, want := range map[string]string{string(r): `"` + written(r) + `"`, between: `"\"é` + written(r) + `\n` + written(r) + `z"`} {
			if got := quote.Quote(s); got != want {
				t.Fatalf("Quote(%+q): %s; wanted %s", s, got, want)
			}
			if back, n, e := quote.Unquote(want); back != s || n != len(want) || e != api.OK {
				t.Fatalf("Unquote(%s): %+q, %d, %d", want, back, n, e)
			}
		}
	}
}

// P3.2: what is written out here is the document's own, or written by hand.
func TestQuote(t *testing.T) {
	for s, want := range map[string]string{
		"\né\"": `"\né\""`, "": `""`, "a": `"a"`, " ": `" "`, "/": `"/"`, "'": `"'"`, "<&>": `"<&>"`, "\"": `"\""`, "\\": `"\\"`, "\\n": `"\\n"`, "\n\r\t": `"\n\r\t"`, "\b\f\v": `"\u0008\u000c\u000b"`,
		"\x00": `"\u0000"`, "\x0f\x10": `"\u000f\u0010"`, "\x1e\x1f\x20\x21": `"\u001e\u001f !"`, "\x7e\x7f": `"~\u007f"`, "\u0080\u009f": "\"\u0080\u009f\"", "\u2028\u2029\ufeff\ufffd": "\"\u2028\u2029\ufeff\ufffd\"", "\U0001f600": "\"\U0001f600\"", "a\"b\\c": `"a\"b\\c"`, "é\x7fé": `"é\u007fé"`,
	} {
		if got := quote.Quote(s); got != want {
			t.Errorf("Quote(%+q): %s; wanted %s", s, got, want)
		}
	}
}

// P3.4: texts of any runes, up to the longest; the row is the same in each run.
func TestQuotedIsUnquoted(t *testing.T) {
	chance := rand.New(rand.NewPCG(3, 4))
	kinds := []rune{0x20, 0x80, 0x800, 0x10000, 0x110000}
	for i := range 3000 {
		longest := chance.IntN(40)
		if i%100 == 0 {
			longest = 4096
		}
		s := ""
		for {
			next := string(chance.Int32N(kinds[chance.IntN(len(kinds))]))
			if len(s+next) > longest {
				break
			}
			s += next
		}
		quoted := quote.Quote(s)
		for _, behind := range []string{"", `"`, "\\", "\x00", " :1", "\xff", "é"} {
			if back, n, e := quote.Unquote(quoted + behind); back != s || n != len(quoted) || e != api.OK {
				t.Fatalf("%+q: Unquote(%s): %+q, %d, %d", s, quoted+behind, back, n, e)
			}
		}
	}
	for _, full := range []string{strings.Repeat("\x00", 4096), strings.Repeat("\"", 4096), strings.Repeat("é", 2048), strings.Repeat("\U0001f600", 1024)} {
		quoted := quote.Quote(full)
		if back, n, e := quote.Unquote(quoted); back != full || n != len(quoted) || e != api.OK {
			t.Fatalf("%+q .., %d bytes: %d, %d", full[:4], len(full), n, e)
		}
	}
}

// What is no UTF-8 is not asked of Quote: it must end, and the bytes that are stand as they do elsewhere.
func TestQuoteOfWhatIsNone(t *testing.T) {
	for count := range 4 {
		for _, s := range rows(count) {
			parts, _ := pieces(s)
			want := slices.Clone(parts)
			for i, p := range parts {
				if r := []rune(p)[0]; len(p) > 1 || r != 0xfffd {
					want[i] = written(r)
				}
			}
			if got := quote.Quote(s); got != `"`+strings.Join(want, "")+`"` {
				t.Fatalf("Quote(%+q): %+q", s, got)
			}
		}
	}
}
