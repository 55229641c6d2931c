package quote_test

import (
	"encoding/json"
	"math/rand/v2"
	"regexp"
	"strconv"
	"strings"
	"testing"
	"unicode/utf8"

	"bowdler/api"
	"bowdler/quote"
)

// quoted is a quoted text at the beginning of another, as P3.3 has it, but for UTF-8.
var quoted = regexp.MustCompile(`^"(?:[^"\\\x00-\x1f]|\\["\\/bfnrt]|\\u(?:[0-9a-cA-Ce-fE-F][0-9a-fA-F]{3}|[dD][0-7][0-9a-fA-F]{2}|[dD][89abAB][0-9a-fA-F]{2}\\u[dD][c-fC-F][0-9a-fA-F]{2}))*"`)

// wanted is Unquote by means of the library.
func wanted(t *testing.T, s string) (string, int, api.Errno) {
	t.Helper()
	found := quoted.FindString(s)
	if found == "" || !utf8.ValidString(found) {
		return "", 0, api.ErrText
	}
	var text string
	if err := json.Unmarshal([]byte(found), &text); err != nil {
		t.Fatalf("the library says of %s: %v", found, err)
	}
	if len(text) > 4096 {
		return "", 0, api.ErrBig
	}
	return text, len(found), api.OK
}

// check holds Unquote of s against what the library says.
func check(t *testing.T, s string) {
	t.Helper()
	text, n, e := quote.Unquote(s)
	if wantText, wantN, wantE := wanted(t, s); text != wantText || n != wantN || e != wantE {
		t.Fatalf("Unquote(%+q): %+q, %d, %d; wanted %+q, %d, %d", s, text, n, e, wantText, wantN, wantE)
	}
}

// isNone holds that s begins with no quoted text.
func isNone(t *testing.T, s string) {
	t.Helper()
	if text, n, e := quote.Unquote(s); text != "" || n != 0 || e != api.ErrText {
		t.Errorf("Unquote(%+q): %+q, %d, %d", s, text, n, e)
	}
}

// isText holds that s is a quoted text, whole, and with more behind it, and that each beginning of it is none.
func isText(t *testing.T, s, want string) {
	t.Helper()
	for _, behind := range []string{"", `"`, `""`, "x", " ", "\n", "\\", "\\u", "\x00", "\xff", "é", ":1}"} {
		if text, n, e := quote.Unquote(s + behind); text != want || n != len(s) || e != api.OK {
			t.Errorf("Unquote(%+q): %+q, %d, %d; wanted %+q, %d", s+behind, text, n, e, want, len(s))
		}
	}
	for i := range len(s) {
		isNone(t, s[:i])
	}
}

// P3.3: what is written out here was read by hand.
func TestUnquote(t *testing.T) {
	for s, want := range map[string]string{
		`""`: "", `"a"`: "a", `" "`: " ", `"aéz"`: "aéz", `"€\n"`: "€\n", "\"\U0001f600\"": "\U0001f600", "\"\x7f\"": "\x7f", "\"\u0080\ufffd\U0010ffff\"": "\u0080\ufffd\U0010ffff", `"/'"`: "/'",
		`"\""`: `"`, `"\\"`: `\`, `"\/"`: "/", `"\b"`: "\x08", `"\f"`: "\x0c", `"\n"`: "\x0a", `"\r"`: "\x0d", `"\t"`: "\x09", `"\\n"`: `\n`, `"\\\""`: `\"`, `"a\"b\\c\/d\be\ff\ng\rh\ti"`: "a\"b\\c/d\be\ff\ng\rh\ti",
		`"\u0000"`: "\x00", `"\u001f"`: "\x1f", `"\u0022\u005C"`: `"\`, `"\u0041"`: "A", `"\u00414"`: "A4", `"\u00E9\u00e9"`: "éé", `"\u20aC"`: "€", `"\uD7FF\uE000"`: "\ud7ff\ue000", `"\ufffd\uFFFF"`: "\ufffd\uffff", `"\uabcd\uABCD\uefEF"`: "\uabcd\uabcd\uefef",
		`"\ud83d\ude00"`: "\U0001f600", `"\uD83D\uDE00"`: "\U0001f600", `"\uD83d\uDe00x"`: "\U0001f600x", `"\ud800\udc00"`: "\U00010000", `"\udbff\udfff"`: "\U0010ffff", `"\ud800\udfff"`: "\U000103ff", `"\udbff\udc00"`: "\U0010fc00", `"\ud800\udc00\ud800\udc00"`: "\U00010000\U00010000", `"\udbff\udfffa\u0062"`: "\U0010ffffab",
	} {
		isText(t, s, want)
	}
}

// P3.3: what begins with no quoted text.
func TestUnquoteOfNone(t *testing.T) {
	for _, s := range []string{
		"", "a", "a\"", " \"a\"", "'a'", "\x00", "\xff", "\\", `\"a"`, "null", `u0041"`, "\ufeff\"a\"",
		`"`, `"a`, `"\`, `"\"`, `"\\\"`, `"\u`, `"\u"`, `"\u0041`, `"é`, "\"\xc3", "\"\xff\"", "\"\x80\"", "\"\xc0\xaf\"", "\"\xed\xa0\x80\"", "\"\xed\xb0\x80\"", "\"\xed\xa0\xbd\xed\xb8\x80\"", "\"\xf4\x90\x80\x80\"", "\"\xe2\x82\"", "\"\xf0\x9f\x98\"", "\"a\xff\"", "\"\\\xff\"", "\"\\\xc3\xa9\"", `"\é"`,
		"\"\x00\"", "\"\x1f\"", "\"\n\"", "\"\r\"", "\"\t\"", "\"a\nb\"", "\"\\\n\"", "\"\\\x00\"", `"\a"`, `"\v"`, `"\0"`, `"\x41"`, `"\'"`, `"\N"`, `"\B"`, `"\ "`, `"\U0041"`, `"\U00000041"`,
		`"\u"`, `"\u1"`, `"\u12"`, `"\u123"`, `"\u123`, `"\u12 3"`, `"\u+041"`, `"\u-041"`, `"\u 041"`, `"\u0x41"`, `"\u00_1"`, `"\u{41}"`, `"\u004g"`, `"\u004G"`, `"\u004/"`, `"\u004:"`, "\"\\u004`\"", `"\u004@"`, `"\u00é"`, "\"\\u004\xc3\"", "\"\\u00\xff1\"", `"\u٠٠٤١"`,
		`"\ud800"`, `"\udbff"`, `"\udc00"`, `"\udfff"`, `"\uD800"`, `"\uDFFF"`, `"\ud800`, `"\ud800\`, `"\ud800\u`, `"\ud800\udc0`, `"\ud800\udc0"`, `"\ud800x"`, `"\ud800\\"`, `"\ud800\n"`, `"\ud800\"`, `"\ud800\u0041"`, `"\ud800\ud800"`, `"\ud800\udbff"`, `"\ud800\ue000"`, `"\udc00\udc00"`, `"\udc00\ud800"`, `"\udfff\udc00"`, `"\ude00\ud83d"`, `"\ud800 \udc00"`, `"\ud800udc00"`, `"\ud800/udc00"`, `"\ud800\Udc00"`, `"\ud800\xdc00"`, `"\ud800dc00"`, "\"\\ud800\xed\xb0\x80\"", `"\ud800\udc0g"`, `"\ud800\ud800\udc00"`, `"\ud800\udc00\udc00"`, `"\ud800\udc00\ud800"`, `"\ud800\U0001f600"`, `"\ud800` + "\U00010000" + `"`,
	} {
		isNone(t, s)
		check(t, s)
	}
}

// P3.3: each byte by itself, and behind a backslash.
func TestUnquoteOfEachByte(t *testing.T) {
	for i := range 256 {
		c := string([]byte{byte(i)})
		for _, s := range []string{c, `"` + c, `"` + c + `"`, `"\` + c, `"\` + c + `"`, `"a\` + c + `b"`, c + `"`, `"\u004` + c + `"`, `"\u` + c + `041"`, `"\ud800\udc0` + c + `"`, `"\ud8` + c + `0\udc00"`} {
			check(t, s)
		}
	}
}

// P3.3: each number of four digits, of either case, alone, with another rune behind it, and with a half.
func TestUnquoteOfEachNumber(t *testing.T) {
	for n := range 0x10000 {
		digits := strconv.FormatInt(int64(0x10000+n), 16)[1:]
		for _, unit := range []string{`\u` + digits, `\u` + strings.ToUpper(digits)} {
			for _, s := range []string{`"` + unit + `"`, `"` + unit + `a"`, `"` + unit + `\udc00"`, `"\ud83d` + unit + `"`} {
				check(t, s)
			}
		}
	}
}

// P3.3: each first half with some second ones.
func TestUnquoteOfHalves(t *testing.T) {
	for first := range 0x400 {
		for _, second := range []int{0, 1, 0x1ff, 0x200, 0x3fe, 0x3ff} {
			s := `"\u` + strconv.FormatInt(int64(0xd800+first), 16) + `\u` + strconv.FormatInt(int64(0xdc00+second), 16) + `"`
			if text, n, e := quote.Unquote(s); text != string(rune(0x10000+0x400*first+second)) || n != 14 || e != api.OK {
				t.Fatalf("Unquote(%s): %+q, %d, %d", s, text, n, e)
			}
		}
	}
}

// P3.3: texts of signs and halves in any order; the row is the same in each run.
func TestUnquoteOfAnySigns(t *testing.T) {
	chance := rand.New(rand.NewPCG(33, 3))
	signs := []string{`"`, `"`, `\`, `\\`, `\"`, `\/`, `\n`, `\u`, `\u00`, `\u0041`, `\ud8`, `\ud800`, `\uDBFF`, `\udc00`, `\udfFf`, "u", "d", "dc00", "00", "4", "a", "F", "g", "/", " ", "é", "€", "\U0001f600", "\x1f", "\x7f", "\xff", "\xc3", "\xed\xa0\x80", "\n"}
	for range 100000 {
		s := `"`
		for range chance.IntN(7) {
			s += signs[chance.IntN(len(signs))]
		}
		check(t, s)
		check(t, s+`"`)
	}
}

// P3.3: the bound is of the text, not of what is written for it.
func TestUnquoteOfLong(t *testing.T) {
	for unit, text := range map[string]string{"x": "x", `\n`: "\n", `\u0041`: "A", "é": "é", `\u00e9`: "é", "\U0001f600": "\U0001f600", `\ud83d\ude00`: "\U0001f600"} {
		count := 4096 / len(text)
		for _, times := range []int{count, count - 1} {
			inner := strings.Repeat(unit, times)
			if got, n, e := quote.Unquote(`"` + inner + `" "`); got != strings.Repeat(text, times) || n != len(inner)+2 || e != api.OK {
				t.Errorf("%s, %d times: %d bytes, %d, %d", unit, times, len(got), n, e)
			}
		}
		for _, inner := range []string{strings.Repeat(unit, count) + "x", "x" + strings.Repeat(unit, count), strings.Repeat(unit, count+1), strings.Repeat(unit, 3*count)} {
			if got, n, e := quote.Unquote(`"` + inner + `"`); got != "" || n != 0 || e != api.ErrBig {
				t.Errorf("%s, too long: %d bytes, %d, %d", unit, len(got), n, e)
			}
			for _, wrong := range []string{"", `\`, `\"`, `\x"`, "\n\"", "\xff\"", "\x00\"", `\ud800"`, `\udc00"`, `\u12"`} {
				isNone(t, `"`+inner+wrong)
			}
		}
	}
	most := strings.Repeat("x", 4093)
	for end, want := range map[string]api.Errno{"€": api.OK, `\u20ac`: api.OK, "abc": api.OK, "\U0001f600": api.ErrBig, `\ud83d\ude00`: api.ErrBig, "éé": api.ErrBig, "€\x7f": api.ErrBig} {
		if _, n, e := quote.Unquote(`"` + most + end + `"`); e != want || (e == api.OK) != (n == len(most+end)+2) {
			t.Errorf("4093 bytes and %s: %d, %d", end, n, e)
		}
	}
}

// P3.3: what is far too long is read up to its end, once.
func TestUnquoteOfHuge(t *testing.T) {
	inner := strings.Repeat(`\u0041é`, 1<<19)
	if text, n, e := quote.Unquote(`"` + inner + `"`); text != "" || n != 0 || e != api.ErrBig {
		t.Errorf("%d bytes, %d, %d", len(text), n, e)
	}
	isNone(t, `"`+inner)
	isNone(t, `"`+inner+"\t\"")
}
