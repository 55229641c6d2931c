package text_test

import (
	"encoding/json"
	"fmt"
	"math"
	"math/rand/v2"
	"reflect"
	"strings"
	"testing"
	"unsafe"

	"bowdler/api"
	"bowdler/text"
	"bowdler/tree"
)

func poison(code api.Errno) api.Value { return api.Value{Kind: api.Poison, Code: code} }

func masked(mask uint64, v api.Value) api.Value {
	v.Mask = mask
	return v
}

// P5.3: each kind of value, written by hand; masks are not seen.
func TestPrint(t *testing.T) {
	for want, v := range map[string]api.Value{
		"null": null, "false": no, "true": yes, "0": number("0"), "-2.5": number("-2.50"), "100": number("1e2"), "0.001": number("1e-3"), "1" + strings.Repeat("0", 59): number("1e59"),
		`""`: word(""), `"a"`: word("a"), `"\"\\\n\r\t\u0000\u001f\u007f/é€😀"`: word("\"\\\n\r\t\x00\x1f\x7f/é€\U0001f600"), `"<&>' "`: word("<&>' "), "\"\u2028\ufeff\"": word("\u2028\ufeff"), `"!40"`: word("!40"),
		"[]": list(), "[null]": list(null), "[1,2,3]": list(number("1"), number("2"), number("3")), `[[],[[]],{},""]`: list(list(), list(list()), object(""), word("")),
		"{}": object(""), `{"a":1}`: object("a", number("1")), `{"b":[true],"a":{"c":null}}`: object("b,a", list(yes), object("c", null)), `{"":""}`: object("", word("")), `{"\"\n\u007f":false,"é":0}`: object("\"\n\x7f,é", no, number("0")), `{"B":1,"a":2,"A":3}`: object("B,a,A", number("1"), number("2"), number("3")),
		"!40": poison(api.ErrKind), "!1": poison(1), "!-1": poison(-1), "!240": poison(api.ErrScript), "!9223372036854775807": poison(math.MaxInt), "!-9223372036854775808": poison(math.MinInt),
		"[!40]": list(poison(40)), `{"a":!5,"b":[!6,1]}`: object("a,b", poison(5), list(poison(6), number("1"))),
	} {
		for _, mask := range []uint64{0, 1, math.MaxUint64} {
			w := masked(mask, v)
			if len(v.Kids) > 0 {
				w.Kids = append([]api.Value{masked(mask, v.Kids[0])}, v.Kids[1:]...)
			}
			if got := text.Print(w); got != want {
				t.Errorf("Print(%.300s): %s; wanted %s", fmt.Sprint(w), got, want)
			}
		}
		if got := text.Print(list(v, v)); got != "["+want+","+want+"]" {
			t.Errorf("Print of a list: %s", got)
		}
		if got := text.Print(object("x,y", v, v)); got != `{"x":`+want+`,"y":`+want+"}" {
			t.Errorf("Print of an object: %s", got)
		}
	}
}

// anyValue is a value of no more than so many levels, without masks and poisons.
func anyValue(chance *rand.Rand, levels int) api.Value {
	words := []string{"", "a", "b", "aa", "A", "é", "\x00", "\x7f", "\"", "\\", "\n\r\t", "\u2028", "\ufffd", "\U0010ffff", "/", "[1,{}]", " ", strings.Repeat("€", 1365), strings.Repeat("\x01", 4096)}
	numbers := []string{"0", "-1", "1e59", "-1e59", "1e-60", "-1.5", "0.1", "123456789.987654321", strings.Repeat("9", 60), "0." + strings.Repeat("9", 60)}
	v := api.Value{Kind: api.Null + chance.IntN(7)}
	if levels > 1 && chance.IntN(3) > 0 {
		v.Kind = api.List + chance.IntN(2)
	}
	count := chance.IntN(4)
	switch v.Kind {
	case api.Number:
		return number(numbers[chance.IntN(len(numbers))])
	case api.Text:
		v.Text = words[chance.IntN(len(words))]
	case api.Object:
		if levels > 1 {
			for _, i := range chance.Perm(len(words))[:count] {
				v.Keys = append(v.Keys, words[i])
			}
		}
	}
	if v.Kind < api.List {
		return v
	}
	for range count {
		if levels > 1 {
			v.Kids = append(v.Kids, anyValue(chance, levels-1))
		}
	}
	return v
}

// P5.4: what was printed is read as it was, from end to end.
func TestPrintIsRead(t *testing.T) {
	chance := rand.New(rand.NewPCG(5, 4))
	deep := 0
	for range 2000 {
		v := anyValue(chance, 1+chance.IntN(12))
		nodes, depth := tree.Size(v)
		if nodes > api.MaxNodes {
			continue
		}
		if depth > 8 {
			deep++
		}
		printed := text.Print(v)
		isRead(t, printed, v, len(printed))
		areRead(t, printed+" "+printed, v, v)
		if again := text.Print(v); again != printed {
			t.Fatal("another answer:", again, printed)
		}
		read, _, _ := text.One(" " + printed)
		if got := text.Print(read); got != printed {
			t.Fatalf("%.200s was printed, read, and printed as %.200s", printed, got)
		}
		if !json.Valid([]byte(printed)) {
			t.Fatalf("the library does not read %.200s", printed)
		}
	}
	if deep < 50 {
		t.Error("too few that are deep:", deep)
	}
	keys := []string{}
	for i := range 200 {
		keys = append(keys, fmt.Sprint(i))
	}
	most := object(strings.Join(keys, ","), make([]api.Value, 200)...)
	for i := range most.Kids {
		most.Kids[i] = null
	}
	for _, v := range []api.Value{most, list(most.Kids...), list(most, list(most.Kids[:197]...)), word(strings.Repeat("\"", 4096)), object(strings.Repeat("\x7f", 4096), word(strings.Repeat("\\", 4096)))} {
		isRead(t, text.Print(v), v, len(text.Print(v)))
	}
}

// P5.4: with a mask, or a poison, it is not.
func TestPrintIsNotRead(t *testing.T) {
	isRead(t, text.Print(masked(1, list(masked(2, null)))), list(null), 6)
	isFault(t, text.Print(poison(40)), api.ErrDoc)
	isFault(t, text.Print(list(null, poison(40))), api.ErrDoc)
}

// R1: of values that may not be, and of deep ones, Print ends, and changes nothing.
func TestPrintEnds(t *testing.T) {
	deep := list()
	for range 1<<16 - 1 {
		deep = list(deep)
	}
	if got := text.Print(deep); got != nest(1<<16, "") {
		t.Errorf("%d bytes of 2^16 levels", len(got))
	}
	for _, v := range []api.Value{
		{}, {Kind: 9}, {Kind: -1}, {Kind: math.MinInt, Kids: []api.Value{null}}, {Kind: api.Number}, {Kind: api.Number, Num: api.Dec{Digits: "x", Scale: -5}}, {Kind: api.Number, Num: api.Dec{Digits: "1", Scale: math.MaxInt}}, word("\xff\"\xc3"), {Kind: api.Poison},
		{Kind: api.Object, Keys: []string{"a"}}, {Kind: api.Object, Kids: []api.Value{null}}, {Kind: api.Object, Keys: []string{"a"}, Kids: []api.Value{null, yes}}, {Kind: api.Object, Keys: []string{"a", "a"}, Kids: []api.Value{yes}}, {Kind: api.List, Keys: []string{"a"}}, list(api.Value{}, api.Value{}), {Kind: api.Null, Text: "x", Kids: []api.Value{yes}}, {Kind: api.Object, Keys: []string{"\xff"}, Kids: []api.Value{{}}}, {Kind: api.List, Kids: make([]api.Value, 1000)},
	} {
		was := tree.Clone(v)
		first := text.Print(v)
		if again := text.Print(v); again != first {
			t.Errorf("another answer: %q, %q", first, again)
		}
		if !reflect.DeepEqual(v, was) {
			t.Errorf("Print changed what was handed in: %v, was %v", v, was)
		}
	}
}

// R7: texts and keys of an answer are in memory of their own.
func TestTextsAreOwn(t *testing.T) {
	s := strings.Repeat(" ", 10) + `{"a key":"a text","123":[12345,"x"]}`
	within := func(part string) bool {
		from, at := uintptr(unsafe.Pointer(unsafe.StringData(s))), uintptr(unsafe.Pointer(unsafe.StringData(part)))
		return part != "" && at >= from && at < from+uintptr(len(s))
	}
	v, _, _ := text.One(s)
	docs, _ := text.All(s)
	for _, doc := range []api.Value{v, docs[0]} {
		for _, part := range []string{doc.Keys[0], doc.Keys[1], doc.Kids[0].Text, doc.Kids[1].Kids[0].Num.Digits, doc.Kids[1].Kids[1].Text} {
			if within(part) {
				t.Errorf("%s is a piece of what was handed in", part)
			}
		}
	}
	w := word(strings.Repeat("x", 100))
	if s = w.Text; within(text.Print(w)) {
		t.Error("Print tells a piece of what was handed in")
	}
}
