package text_test

import (
	"bytes"
	"encoding/json"
	"math/rand/v2"
	"reflect"
	"strings"
	"testing"
	"unicode/utf8"

	"bowdler/api"
	"bowdler/dec"
	"bowdler/text"
)

// P5.1, P5.2: documents of each kind, and their values, written by hand.
func TestOne(t *testing.T) {
	for s, want := range map[string]api.Value{
		"null": null, "false": no, "true": yes, "0": number("0"), "-0": number("0"), "7": number("7"), "-12.50": number("-12.5"), "1e2": number("100"), "1E+2": number("100"), "25e-1": number("2.5"), "1e59": number("1e59"),
		`""`: word(""), `"a"`: word("a"), `"é\n\u00e9\ud83d\ude00"`: word("é\né\U0001f600"), `" "`: word(" "), `"\"]"`: word(`"]`), `"null"`: word("null"), `"1"`: word("1"), `"\\"`: word(`\`), `"[1,{}]"`: word("[1,{}]"),
		"[]": list(), "[null]": list(null), "[1,2]": list(number("1"), number("2")), `["a",true,[],{},false]`: list(word("a"), yes, list(), object(""), no), "[[],[null]]": list(list(), list(null)), "[[[1]]]": list(list(list(number("1")))), "[-1]": list(number("-1")),
		"{}": object(""), `{"a":1}`: object("a", number("1")), `{"b":null,"a":true}`: object("b,a", null, yes), `{"":""}`: object("", word("")), `{"a":{"a":{}}}`: object("a", object("a", object(""))), `{"\u0061\"":[1,{"b":2}]}`: object(`a"`, list(number("1"), object("b", number("2")))), `{"é":"é","e":"e"}`: object("é,e", word("é"), word("e")), `{"]":"}"}`: object("]", word("}")),
		`[{"a":[]},{"a":[]}]`: list(object("a", list()), object("a", list())), `[{"a":1},2]`: list(object("a", number("1")), number("2")), `{"a":[1,2],"b":3}`: object("a,b", list(number("1"), number("2")), number("3")),
	} {
		isRead(t, s, want, len(s))
		for _, ahead := range []string{" ", "\t", "\n", "\r", " \t\n\r", "\r\n\r\n", strings.Repeat(" ", 5000)} {
			isRead(t, ahead+s, want, len(ahead+s))
			isRead(t, ahead+s+ahead, want, len(ahead+s))
		}
		check(t, s)
	}
}

// P5.1, P5.2: where a document ends, whatever stands behind it.
func TestOneWithMoreBehind(t *testing.T) {
	for _, s := range []string{"null", "false", "true", `"a"`, `""`, "[]", "{}", "[1]", `{"a":[{}]}`} {
		want, _, _ := wanted(s)
		for _, behind := range []string{" ", " 2", "1", "-", ".", "e", "x", "null", "true", `"`, `"b"`, ",", ":", "]", "}", "[", "{", "[]", "\\", "/", "//", "\x00", "\xff", "\v", "\f", "\u00a0", "\ufeff", "é", ",1]", strings.Repeat("[", 100)} {
			isRead(t, s+behind, want, len(s))
			isRead(t, "\n "+s+behind, want, len(s)+2)
		}
	}
	for _, behind := range []string{" ", " 2", "x", "null", "true", "f", `"b"`, ",", ":", "]", "}", "[", "{", "_", "'", "\x00", "\xff", "\v", "é", "/", "*", "٣"} {
		isRead(t, "12"+behind, number("12"), 2)
		isRead(t, " -0.5e1"+behind, number("-5"), 7)
	}
	isRead(t, " 1 2", number("1"), 2)
	isRead(t, "nullnull", null, 4)
}

// P5.1: each of the four blanks, alone and in rows, around each part; and other bytes that stand there.
func TestBlanks(t *testing.T) {
	parts := []string{"{", `"a"`, ":", "[", "1", ",", "null", ",", `"x"`, ",", "[", "]", ",", "{", "}", "]", ",", `"b"`, ":", "{", `"c"`, ":", "true", ",", `"d"`, ":", "-2.5", "}", ",", `"a"`, ":", "false", "}"}
	want := object("a,b", no, object("c,d", yes, number("-2.5")))
	for _, blank := range []string{"", " ", "\t", "\n", "\r", "\x20\x09\x0a\x0d", "\r\r\n\n\t\t  "} {
		s := blank + strings.Join(parts, blank)
		isRead(t, s, want, len(s))
		isRead(t, s+blank, want, len(s))
		for i := range parts {
			s := strings.Join(parts[:i], "") + blank + strings.Join(parts[i:], "")
			isRead(t, s, want, len(s))
		}
	}
	for i := range parts {
		for _, other := range []string{"\v", "\f", "\b", "\x00", "\x01", "\x1f", "\x21", "\x7f", "\x80", "\x85", "\xa0", "\u0085", "\u00a0", "\u2003", "\u2028", "\u3000", "\ufeff", "_", ";", "/**/", "//\n", "#", `\n`, `\u0020`, "'", "`", "(", ")", "=", "x", "\xff", "é"} {
			isFault(t, strings.Join(parts[:i], "")+other+strings.Join(parts[i:], ""), api.ErrDoc)
			isFault(t, strings.Join(parts[:i], " ")+" "+other+" "+strings.Join(parts[i:], " "), api.ErrDoc)
		}
	}
}

// P5.1: each byte there is, around each part of a small document: the four blanks change nothing.
func TestEachByte(t *testing.T) {
	parts := []string{"[", "1", ",", "{", `"a"`, ":", "[", "]", "}", "]", ""}
	for b := range 256 {
		for i := range parts {
			s := strings.Join(parts[:i], "") + string([]byte{byte(b)}) + strings.Join(parts[i:], "")
			e := check(t, s)
			if strings.IndexByte("\x20\x09\x0a\x0d", byte(b)) >= 0 && e != api.OK {
				t.Errorf("%q: %d", s, e)
			}
		}
	}
}

// P5.1: a number is the longest text of its bytes, whole.
func TestNumbers(t *testing.T) {
	for _, s := range []string{"-", "+", ".", "e", "E", "+1", "--1", "01", "-01", "00", "1.", ".5", "-.5", "1.e1", "1e", "1e+", "1e-", "1e5e5", "1.2.3", "1-2", "1+2", "1--", "1e1.5", "1e100", "1e001", "1E1E", "0-", "1e2+", "1.5e-", "-e1", "9e99e", "e1", "E", "0e", "-0e", "0.e0", "12-", "1...", strings.Repeat("1", 5000) + "-"} {
		for _, around := range [][2]string{{"", ""}, {" ", " "}, {"[", "]"}, {"[1,", "]"}, {"[", ",1]"}, {`{"a":`, "}"}, {"", "x"}, {"", " 1"}, {"", `""`}} {
			isFault(t, around[0]+s+around[1], api.ErrDoc)
		}
	}
	for _, s := range []string{"0x10", "1_000", "0b1", "1f", "2 3", "3\u00b2", "1\u0660", "1true", "1null", `1"a"`, "1[]", "1{}"} {
		isRead(t, s, number(s[:1]), 1)
		isFault(t, "["+s+"]", api.ErrDoc)
	}
	for _, s := range []string{"NaN", "Infinity", "-Infinity", "inf", "\u0661", "\uff11"} {
		isFault(t, s, api.ErrDoc)
	}
	sixty := strings.Repeat("9", 60)
	for s, want := range map[string]string{sixty: sixty, "-" + sixty: "-" + sixty, "0." + strings.Repeat("0", 59) + "1": "1e-60", "1e-60": "1e-60", "0e99": "0", "0.000e-99": "0", "1" + strings.Repeat("0", 59): "1e59", "1.0" + strings.Repeat("0", 500): "1", "10e-61": "1e-60"} {
		isRead(t, s, number(want), len(s))
		isRead(t, "["+s+"]", list(number(want)), len(s)+2)
	}
}

// P5.1: the last one of members with one key counts, at the place of the first.
func TestMembersWithOneKey(t *testing.T) {
	one, two, three := number("1"), number("2"), number("3")
	for s, want := range map[string]api.Value{
		` {"a":1,"b":[],"a":2}`: object("a,b", two, list()), `{"a":1,"a":2}`: object("a", two), `{"a":1,"a":2,"a":3}`: object("a", three), `{"a":1,"b":2,"a":3}`: object("a,b", three, two), `{"a":1,"b":2,"b":3}`: object("a,b", one, three), `{"b":1,"a":2,"c":3,"a":1,"b":2}`: object("b,a,c", two, one, three),
		`{"a":[1,2],"a":1}`: object("a", one), `{"a":1,"a":[1,2]}`: object("a", list(one, two)), `{"a":{"a":1},"a":{"b":2}}`: object("a", object("b", two)), `{"a":{"b":1,"b":2},"b":3}`: object("a,b", object("b", two), three), `{"a":1,"a":null}`: object("a", null), `{"":1,"":2}`: object("", two),
		`{"a":1,"\u0061":2}`: object("a", two), `{"\u00e9":1,"é":2}`: object("é", two), `{"\/":1,"/":2}`: object("/", two), `{"a":1,"A":2}`: object("a,A", one, two), "{\"\u00e9\":1,\"e\u0301\":2}": object("\u00e9,e\u0301", one, two), `{"a":1,"a ":2}`: object("a,a ", one, two), `{"a":1,"a\u0000":2}`: object("a,a\x00", one, two),
		`[{"a":1},{"a":2}]`: list(object("a", one), object("a", two)), `{"a":{"a":{"a":1,"a":2}},"b":{"a":3}}`: object("a,b", object("a", object("a", two)), object("a", three)), `{"a":{"x":1},"b":2,"a":{"y":3},"b":1}`: object("a,b", object("y", three), one),
	} {
		isRead(t, s, want, len(s))
		isRead(t, "["+s+","+s+"]", list(want, want), 2*len(s)+3)
	}
}

// P5.2: what begins with no document.
func TestOneOfNone(t *testing.T) {
	row := []string{
		"", " ", "\t\n\r ", "x", "nul", "nulL", "Null", "NULL", "n", "tru", "True", "t", "fals", "False", "f", "nil", "undefined", "yes", "\x00", "\xff", "\u00a0null", "\ufeffnull", "\vnull", "/**/1", "//\n1", "#", "!40", "'a'", "`a`", "a:1",
		"]", "}", ",", ":", ",1", ":1", "[", "{", "[[", "[{", `{"a":[`, "[}", "{]", "[1", "[1,", "[1,]", "[,]", "[,1]", "[1,,2]", "[1}", "[1 2]", "[1;2]", "[1:2]", "[:1]", `["a":1]`, `["a" "b"]`, "[[]", "[[],", "[[]}", "[[1]", "[null", "[nullx]", "[nul]", "[true1]", "[1true]", "[1[]]", "[[][]]", "[{}{}]", "(1)", "<1>",
		`{"a"}`, `{"a":}`, `{"a":1,}`, `{,}`, `{,"a":1}`, `{"a":1,,"b":2}`, `{"a":1]`, `{"a" 1}`, `{"a",1}`, `{"a"::1}`, `{"a":1:2}`, `{"a":1 "b":2}`, `{"a":1;"b":2}`, `{"a"`, `{"a":`, `{"a":1`, `{"a":1,`, `{"a":1,"b"`, `{"a":1,"b"}`, `{:1}`, `{1}`, `{1:2}`, `{a:1}`, `{'a':1}`, `{null:1}`, `{true:1}`, `{[]:1}`, `{{}:1}`, `{[1]}`, `{""}`, `{"":}`, `{"a":b}`, `{"a":"b}`, `{"a:1}`, `{"a\":1}`,
		`"`, `"a`, `"\`, `"\"`, `"\x"`, `"\u12"`, `"\ud800"`, `"\udc00"`, "\"\n\"", "\"\t\"", "\"\x00\"", "\"\xff\"", "\"\xed\xa0\x80\"", "\"a\xc3\"", `"a\'"`, "[\"\x01\"]", "{\"\x01\":1}", "{\"\xff\":1}", `{"\u12":1}`, `{"\ud800":1}`, `["a\q"]`,
	}
	for _, s := range row {
		isFault(t, s, api.ErrDoc)
		isFault(t, "\n"+s, api.ErrDoc)
		if strings.TrimSpace(s) != "" {
			if s != "]" {
				isFault(t, "["+s, api.ErrDoc)
			}
			isFault(t, "[1,"+s, api.ErrDoc)
			isFault(t, `{"a":`+s, api.ErrDoc)
		}
		check(t, s)
	}
}

// P5.2: a document that ends too early, at each place.
func TestOneEndsEarly(t *testing.T) {
	for _, s := range []string{"null", "false", "true", `"a\u00e9\n"`, "[]", "{}", "[1, 2]", ` { "a" : [ 1 , null , { "b" : "c\"" } ] , "a" : -2.5e1 , "d" : { } } `, nest(12, ""), nest(11, `"x"`), strings.Repeat(`{"a":`, 11) + "true" + strings.Repeat("}", 11), listOf(200, "1.5"), nest(30, "1"), listOf(300, "1"), `["` + strings.Repeat("x", 5000) + `",1e99]`} {
		s = strings.TrimSpace(s)
		for i := range len(s) {
			isFault(t, s[:i], api.ErrDoc)
			isFault(t, " "+s[:i]+"\n", api.ErrDoc)
		}
	}
}

// P5.1, P5.2: documents of any form, and what becomes of them when bytes are lost, doubled or changed, against another reader.
func TestOneOfAny(t *testing.T) {
	chance := rand.New(rand.NewPCG(5, 1))
	counts := map[api.Errno]int{}
	bits := []string{"[", "]", "{", "}", ",", ":", `"`, `"a"`, `"a":`, "1", "-", "e", ".", "0", "null", "true", " ", "\n", "\\", "\v", "\xff", "é", "x"}
	for range 60000 {
		s := anyDocument(chance, 1+chance.IntN(16))
		if len(s) > 3000 {
			continue
		}
		for range chance.IntN(3) {
			at := chance.IntN(len(s) + 1)
			to := min(len(s), at+chance.IntN(3))
			s = s[:at] + bits[chance.IntN(len(bits))] + s[to:]
		}
		counts[check(t, s)]++
	}
	for range 60000 {
		s := ""
		for range chance.IntN(12) {
			s += bits[chance.IntN(len(bits))]
		}
		counts[check(t, s)]++
	}
	if counts[api.OK] < 10000 || counts[api.ErrDoc] < 10000 || counts[api.ErrDepth] < 100 {
		t.Error("the row has too few of a kind:", counts)
	}
}

// plain is a value as the library has it.
func plain(v api.Value) any {
	switch v.Kind {
	case api.False, api.True:
		return v.Kind == api.True
	case api.Number:
		return json.Number(dec.Print(v.Num))
	case api.Text:
		return v.Text
	case api.List:
		row := []any{}
		for _, kid := range v.Kids {
			row = append(row, plain(kid))
		}
		return row
	case api.Object:
		members := map[string]any{}
		for i, key := range v.Keys {
			members[key] = plain(v.Kids[i])
		}
		return members
	}
	return nil
}

// onePrint writes each number in what the library read as Print does.
func onePrint(x any) any {
	switch y := x.(type) {
	case json.Number:
		return json.Number(dec.Print(number(string(y)).Num))
	case []any:
		for i := range y {
			y[i] = onePrint(y[i])
		}
	case map[string]any:
		for key := range y {
			y[key] = onePrint(y[key])
		}
	}
	return x
}

// P5.1: documents as the library reads them.
func TestOneAsTheLibrary(t *testing.T) {
	chance := rand.New(rand.NewPCG(5, 2))
	for range 20000 {
		s := anyDocument(chance, 1+chance.IntN(9))
		if chance.IntN(2) == 0 && len(s) > 0 {
			at := chance.IntN(len(s))
			s = s[:at] + s[at+1:]
		}
		v, n, e := text.One(s)
		trimmed := strings.TrimRight(s, " \t\n\r")
		halves := strings.ReplaceAll(s, `\ud83d\ude00`, "") // the library takes a half of a rune for one
		if !utf8.ValidString(s) || strings.Contains(halves, "d83d") || strings.Contains(halves, "de00") || e == api.ErrBig || e == api.ErrDepth {
			continue
		}
		if valid := json.Valid([]byte(s)); valid != (e == api.OK && n == len(trimmed)) {
			t.Fatalf("One(%q): %d, %d; the library: %v", s, n, e, valid)
		} else if !valid {
			continue
		}
		reader := json.NewDecoder(bytes.NewReader([]byte(s)))
		reader.UseNumber()
		var want any
		if err := reader.Decode(&want); err != nil {
			t.Fatal(s, err)
		}
		if got := plain(v); !reflect.DeepEqual(got, onePrint(want)) {
			t.Fatalf("One(%q): %v; the library: %v", s, got, want)
		}
	}
}

// P5.2, R7: no two lists of one answer share a place, nor of two answers, their spare room with it.
func TestOneIsOwn(t *testing.T) {
	s := `{"a":[1,[2,3],{"b":"c"}],"d":{"e":[],"f":[4]},"a":[[5],{"g":6,"h":7,"g":[8]}],"i":[[9],[10,11,12,13,14]]}`
	first, _, _ := text.One(s)
	second, _, _ := text.One(s)
	shareNothing(t, first, second)
}

// shareNothing holds that no place of memory is in two lists of these.
func shareNothing(t *testing.T, docs ...api.Value) {
	t.Helper()
	kids, keys := map[*api.Value]int{}, map[*string]int{}
	for i := range docs {
		for _, row := range rowsOf(&docs[i]) {
			for k := range row.Kids[:cap(row.Kids)] {
				kids[&row.Kids[:cap(row.Kids)][k]]++
			}
			for k := range row.Keys[:cap(row.Keys)] {
				keys[&row.Keys[:cap(row.Keys)][k]]++
			}
		}
	}
	for place, count := range kids {
		if count > 1 {
			t.Errorf("%d lists share the kid %v", count, *place)
		}
	}
	for place, count := range keys {
		if count > 1 {
			t.Errorf("%d objects share the key %q", count, *place)
		}
	}
	if len(kids) == 0 {
		t.Error("there are no kids")
	}
}

// rowsOf are all lists and objects of v.
func rowsOf(v *api.Value) []*api.Value {
	var rows []*api.Value
	if v.Kind == api.List || v.Kind == api.Object {
		rows = append(rows, v)
	}
	for i := range v.Kids {
		rows = append(rows, rowsOf(&v.Kids[i])...)
	}
	return rows
}
