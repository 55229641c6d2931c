package text_test

import (
	"strconv"
	"strings"
	"testing"

	"bowdler/api"
	"bowdler/text"
	"bowdler/tree"
)

// isWithin holds that One reads all of s, and how great its value is.
func isWithin(t *testing.T, s string, nodes, depth int) {
	t.Helper()
	v, n, e := text.One(s)
	if hasNodes, hasDepth := tree.Size(v); e != api.OK || n != len(s) || hasNodes != nodes || hasDepth != depth {
		t.Errorf("One(%.200q) of %d bytes: %d nodes, %d levels, %d, %d; wanted %d, %d", s, len(s), hasNodes, hasDepth, n, e, nodes, depth)
	}
	check(t, s)
}

// members is an object of so many members, as a text: their keys are numbers below some other number.
func members(count, keys int, item string) string {
	var row []string
	for i := range count {
		row = append(row, `"`+strconv.Itoa(i%keys)+`":`+item)
	}
	return "{" + strings.Join(row, ",") + "}"
}

// P5.2: 12 levels, and no more; members that do not count are counted as well.
func TestDepth(t *testing.T) {
	isWithin(t, nest(11, "1"), 12, 12)
	isWithin(t, nest(12, ""), 12, 12)
	isWithin(t, nest(11, "{}"), 12, 12)
	isWithin(t, nest(11, "1,[],{},null"), 15, 12)
	isWithin(t, nest(10, `{"a":1}`), 12, 12)
	isWithin(t, strings.Repeat(`{"a":`, 11)+`""`+strings.Repeat("}", 11), 12, 12)
	isWithin(t, strings.Repeat(`[{"a":`, 5)+`[1]`+strings.Repeat("}]", 5), 12, 12)
	isWithin(t, `{"a":`+nest(10, "1")+`,"a":1}`, 2, 2)
	isWithin(t, nest(9, `{"a":[1],"a":1}`), 11, 11)
	isWithin(t, "["+nest(10, "1")+","+nest(10, "1")+","+nest(11, "")+"]", 34, 12)
	isWithin(t, nest(6, listOf(30, nest(4, "1"))), 157, 12)
	for _, s := range []string{
		nest(12, "1"), nest(13, ""), nest(12, "{}"), nest(12, `""`), nest(11, `{"a":null}`), nest(1000, ""), nest(1<<16, "1"), strings.Repeat(`{"a":`, 12) + "1" + strings.Repeat("}", 12), strings.Repeat(`[{"a":`, 6) + `1` + strings.Repeat("}]", 6), strings.Repeat(`{"a":`, 5000) + "{}" + strings.Repeat("}", 5000),
		nest(11, "1,[],[1]"), nest(11, "[1],1"), "[" + nest(11, "1") + ",1]", "[1," + nest(11, "1") + "]", "[1," + nest(12, "") + ",1]",
		`{"a":` + nest(11, "1") + `,"a":1}`, `{"a":1,"a":` + nest(12, "") + `}`, nest(9, `{"a":[[1]],"a":1}`), `{"a":` + nest(12, "") + `,"b":2,"a":1}`, `[{"a":{"b":` + nest(9, "1") + `},"a":1}]`,
	} {
		for _, behind := range []string{"", "x", "]", ",", " 1"} {
			isFault(t, s+behind, api.ErrDepth)
			isFault(t, "\n"+s+behind, api.ErrDepth)
		}
		isFault(t, "["+s+",true]", api.ErrDepth)
		check(t, s)
	}
}

// P5.2: 200 kids, and no more; members that do not count are counted as well.
func TestKids(t *testing.T) {
	isWithin(t, listOf(200, "1"), 201, 2)
	isWithin(t, listOf(199, "1"), 200, 2)
	isWithin(t, listOf(200, "[]"), 201, 2)
	isWithin(t, members(200, 200, "1"), 201, 2)
	isWithin(t, members(200, 1, "1"), 2, 2)
	isWithin(t, members(200, 150, "null"), 151, 2)
	isWithin(t, nest(3, listOf(200, "1")), 204, 5)
	isWithin(t, `{"a":`+listOf(200, `"x"`)+"}", 202, 3)
	isWithin(t, "["+listOf(150, "1")+","+members(151, 151, "1")+"]", 304, 3)
	for _, s := range []string{
		listOf(201, "1"), listOf(201, "[]"), listOf(202, `""`), listOf(399, "1"), members(201, 201, "1"), members(201, 1, "1"), members(201, 200, "null"), members(250, 7, "[]"),
		nest(1, listOf(201, "1")), nest(10, listOf(201, "1")), "[1," + listOf(201, "1") + "]", "[" + listOf(201, "1") + ",1]", `{"a":` + listOf(201, "1") + `,"a":1}`, `{"a":1,"a":` + members(201, 1, "1") + `}`, "[" + members(201, 1, "1") + "]",
		listOf(100000, "1"), members(100000, 3, "1"),
	} {
		for _, behind := range []string{"", "x", ",1", " 1"} {
			isFault(t, s+behind, api.ErrBig)
			isFault(t, " "+s+behind, api.ErrBig)
		}
		check(t, s)
	}
}

// P5.2: 400 values, and no more; those of members that do not count are counted as well, keys are none.
func TestNodes(t *testing.T) {
	isWithin(t, "["+listOf(200, "1")+","+listOf(197, "1")+"]", 400, 3)
	isWithin(t, "["+listOf(197, "[]")+","+listOf(200, "{}")+"]", 400, 3)
	isWithin(t, "["+strings.Repeat("[1],", 199)+"1]", 400, 3)
	isWithin(t, "["+members(199, 199, "1")+","+members(198, 198, "1")+"]", 400, 3)
	isWithin(t, members(199, 199, "[1]"), 399, 3)
	isWithin(t, members(199, 1, "[1]"), 3, 3)
	isWithin(t, `{"a":`+listOf(200, "1")+`,"a":`+listOf(197, "1")+`}`, 199, 3)
	isWithin(t, `{"a":`+listOf(200, "1")+`,"b":[],"a":`+listOf(196, "1")+`}`, 199, 3)
	isWithin(t, nest(9, listOf(195, `{"a":1}`)), 400, 12)
	for _, s := range []string{
		"[" + listOf(200, "1") + "," + listOf(198, "1") + "]", "[" + listOf(198, "1") + "," + listOf(200, "1") + "]", listOf(200, "[1]"), "[" + listOf(200, "1") + "," + listOf(197, "1") + ",1]", "[" + members(199, 199, "1") + "," + members(199, 199, "1") + "]",
		members(200, 1, "[1]"), members(200, 200, "[1]"), `{"a":` + listOf(200, "1") + `,"a":` + listOf(198, "1") + `}`, `{"a":` + listOf(200, "1") + `,"a":` + listOf(197, "1") + `,"a":1}`, `{"a":` + listOf(200, "[]") + `,"a":{"b":` + listOf(197, "1") + `}}`, nest(9, listOf(195, `{"a":1}`)+",1"), listOf(100, listOf(100, "1")),
	} {
		for _, behind := range []string{"", "x", "]", " 1"} {
			isFault(t, s+behind, api.ErrBig)
		}
		check(t, s)
	}
	for _, s := range []string{nest(1, listOf(200, "1")+","+listOf(197, "1")), members(199, 5, "[1]")} { // each document by itself
		docs, e := text.All(s + s + s)
		if e != api.OK || len(docs) != 3 {
			t.Errorf("All of three: %d, %d", len(docs), e)
		}
	}
}

// P5.2: texts and keys of 4096 bytes, and no more, however they are written.
func TestLongTexts(t *testing.T) {
	for unit, is := range map[string]string{"x": "x", `\n`: "\n", `\"`: `"`, `\\`: `\`, `\u0041`: "A", "é": "é", `\u00e9`: "é", `\ud83d\ude00`: "\U0001f600", `]`: "]", `\\\"`: `\"`} {
		count := 4096 / len(is)
		most, more := strings.Repeat(unit, count), strings.Repeat(unit, count+1)
		long := strings.Repeat(is, count)
		isRead(t, ` "`+most+`" `, word(long), len(most)+3)
		isRead(t, `["`+most+`"]`, list(word(long)), len(most)+4)
		isRead(t, `{"`+most+`":1}`, api.Value{Kind: api.Object, Keys: []string{long}, Kids: []api.Value{number("1")}}, len(most)+6)
		for _, quoted := range []string{`"` + more + `"`, `"` + most + `x"`, `"x` + most + `"`, `"` + more + more + more + `"`} {
			for _, around := range [][2]string{{"", ""}, {"\r", ""}, {"", "x"}, {"", `"`}, {"", " 1"}, {"", `\`}, {"[", "]"}, {"[1,", " ]"}, {"[ ", ",{}]"}, {"{", ":1}"}, {"{", ` : 1,"a":2}`}, {`{"a":1,`, ":1}"}, {"{", ":1}"}, {`{"a":`, "}"}, {`{"a":`, `,"a":1}`}, {"[{", ":{}}]"}, {"{" + quoted + ":1,", ":2}"}} {
				isFault(t, around[0]+quoted+around[1], api.ErrBig)
			}
			for _, around := range [][2]string{{"[", ""}, {"[", ",]"}, {"[", ":1]"}, {"[", "x]"}, {"[", "1]"}, {"[", `"]`}, {"{", "}"}, {"{", ":}"}, {"{", ",1}"}, {"{", ":1,}"}, {`{"a":`, "]"}, {`{"a":`, ""}} {
				isFault(t, around[0]+quoted+around[1], api.ErrDoc)
			}
			check(t, quoted)
			check(t, "["+quoted+`,"]"]`)
		}
		for _, wrong := range []string{more, more + `\`, more + `\"`, more + `\x"`, more + "\n\"", more + "\xff\"", more + `\ud800"`} {
			isFault(t, `"`+wrong, api.ErrDoc)
			isFault(t, `["`+wrong+`]`, api.ErrDoc)
			isFault(t, `{"`+wrong+`:1}`, api.ErrDoc)
		}
	}
}

// P5.2: a number that no decimal is.
func TestBigNumbers(t *testing.T) {
	for _, s := range []string{"1e60", "-1e60", "1e99", "10e59", "1e-61", "1.5e-60", "-1E-99", strings.Repeat("9", 61), "1" + strings.Repeat("0", 60), "0." + strings.Repeat("0", 60) + "1", "1." + strings.Repeat("0", 60) + "1", strings.Repeat("1", 100000), "1" + strings.Repeat("0", 100)} {
		for _, around := range [][2]string{{"", ""}, {" ", " "}, {"", "x"}, {"", " 1"}, {"", "]"}, {"[", "]"}, {"[1,", "]"}, {"[", ",1]"}, {`{"a":`, "}"}, {`{"a":`, `,"a":1}`}, {`{"a":1,"a":`, "}"}, {strings.Repeat("[", 11), strings.Repeat("]", 11)}} {
			isFault(t, around[0]+s+around[1], api.ErrBig)
		}
		for _, around := range [][2]string{{"[", ""}, {"[", "x]"}, {"[", ",]"}, {"[", "}"}, {`{"a":`, ""}, {"{", ":1}"}, {`{"a":`, ":1}"}, {"", "-"}, {"", "e"}, {"", ".."}, {"+", ""}, {"0", "e"}} {
			isFault(t, around[0]+s+around[1], api.ErrDoc)
		}
		check(t, "["+s+"]")
	}
}

// P5.2: what is no document is told ahead of what is too deep, and that ahead of what is too big, wherever each of them stands.
func TestFirstError(t *testing.T) {
	deep := []string{nest(12, "1"), nest(13, ""), strings.Repeat(`{"a":`, 12) + "1" + strings.Repeat("}", 12), `{"a":` + nest(13, "") + `,"a":1}`}
	big := []string{"1e99", `"` + strings.Repeat("x", 4097) + `"`, listOf(201, "1"), members(201, 1, "1"), listOf(2, listOf(199, "1")), `{"` + strings.Repeat("x", 4097) + `":1}`, listOf(1000, "1"), listOf(20, listOf(20, "1"))}
	wrong := []string{"x", "}", ",", "01", "\"\n\"", `{"a"}`, "[1", "[1,]", `{1:2}`, "+1", "\v"}
	for _, d := range deep {
		for _, b := range big {
			isFault(t, "["+d+","+b+"]", api.ErrDepth)
			isFault(t, "["+b+","+d+"]", api.ErrDepth)
			isFault(t, `{"a":`+b+`,"a":`+d+`}`, api.ErrDepth)
			isFault(t, `{"a":`+d+`,"a":`+b+`}`, api.ErrDepth)
			isFault(t, nest(12, b), api.ErrDepth)
			isFault(t, nest(20, b+","+b), api.ErrDepth)
			isFault(t, "["+b+","+b+","+d+","+b+","+d+"]", api.ErrDepth)
			for _, w := range wrong {
				isFault(t, "["+d+","+b+","+w, api.ErrDoc)
				isFault(t, "["+b+","+d+","+w+"]", api.ErrDoc)
				isFault(t, "["+w+","+d+","+b, api.ErrDoc)
			}
		}
	}
	for _, w := range wrong {
		for _, s := range append(deep, big...) {
			isFault(t, w+s, api.ErrDoc)
			isFault(t, "["+s+","+w, api.ErrDoc)
			isFault(t, "["+s+" "+w, api.ErrDoc)
			isFault(t, `{"a":`+s+`,"b":`+w+"}", api.ErrDoc)
			check(t, "["+s+w)
		}
	}
}

// R1, P5.2: texts of millions of levels, values and bytes.
func TestHuge(t *testing.T) {
	const many = 1 << 20
	isFault(t, strings.Repeat("[", 16*many), api.ErrDoc)
	for _, s := range []string{strings.Repeat("[", many), strings.Repeat(`{"":`, many), "[" + strings.Repeat("1,", many), "[" + strings.Repeat("[],", many), strings.Repeat("[", many) + strings.Repeat("]", many-1), strings.Repeat("[", many) + strings.Repeat("}", many)} {
		isFault(t, s, api.ErrDoc)
	}
	isFault(t, nest(many, ""), api.ErrDepth)
	isFault(t, listOf(many, "1"), api.ErrBig)
	isFault(t, strings.Repeat(`{"":`, many)+"1"+strings.Repeat("}", many), api.ErrDepth)
	isFault(t, strings.Repeat("1", many), api.ErrBig)
	isFault(t, `"`+strings.Repeat(`\u0041`, many)+`"`, api.ErrBig)
	isRead(t, strings.Repeat(" ", many)+"1", number("1"), many+1)
	isFault(t, strings.Repeat(" ", many), api.ErrDoc)
}
