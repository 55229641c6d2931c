package text_test

import (
	"fmt"
	"math/rand/v2"
	"strings"
	"testing"

	"bowdler/api"
	"bowdler/text"
	"bowdler/tree"
)

// areRead holds what All tells.
func areRead(t *testing.T, s string, want ...api.Value) {
	t.Helper()
	docs, e := text.All(s)
	if e != api.OK || len(docs) != len(want) {
		t.Errorf("All(%.200q): %d documents, %d; wanted %d", s, len(docs), e, len(want))
		return
	}
	for i, doc := range docs {
		if !tree.Same(doc, want[i]) {
			t.Errorf("All(%.200q): document %d is %.300s; wanted %.300s", s, i, fmt.Sprint(doc), fmt.Sprint(want[i]))
		}
	}
}

// isAllFault holds that All tells an error, and nothing beside it.
func isAllFault(t *testing.T, s string, want api.Errno) {
	t.Helper()
	if docs, e := text.All(s); e != want || len(docs) != 0 {
		t.Errorf("All(%.200q) of %d bytes: %d documents, %d; wanted %d", s, len(s), len(docs), e, want)
	}
}

// P5.3: documents one behind the other, with blanks around them or none.
func TestAll(t *testing.T) {
	one, two, three := number("1"), number("2"), number("3")
	areRead(t, "1 [2]\n{\"a\":3}\"x\"", one, list(two), object("a", three), word("x"))
	areRead(t, "1", one)
	areRead(t, " 1 ", one)
	areRead(t, "1 2\t3\n1\r2", one, two, three, one, two)
	areRead(t, "nulltruefalse", null, yes, no)
	areRead(t, `""""`, word(""), word(""))
	areRead(t, `"a""b"1"c"`, word("a"), word("b"), one, word("c"))
	areRead(t, "[][1]{}{}", list(), list(one), object(""), object(""))
	areRead(t, "1null2[3]", one, null, two, list(three))
	areRead(t, "\r\n[ 1 ]\r\n\r\n{ }\r\n", list(one), object(""))
	areRead(t, `{"a":1,"a":2}{"a":3}`, object("a", two), object("a", three))
	areRead(t, "1 1 1", one, one, one)
	for _, blank := range []string{"", " ", "\t", "\n", "\r", " \t\n\r\n"} {
		areRead(t, blank)
		areRead(t, blank+"[1]"+blank+"[2]"+blank, list(one), list(two))
	}
}

// P5.3: the first error of One, wherever it stands, and whatever it is.
func TestAllOfNone(t *testing.T) {
	deep, crowd, long := nest(12, "1"), listOf(201, "1"), `"`+strings.Repeat("x", 4097)+`"`
	for s, want := range map[string]api.Errno{"x": api.ErrDoc, "]": api.ErrDoc, ",": api.ErrDoc, ":": api.ErrDoc, "[1": api.ErrDoc, "[1,]": api.ErrDoc, "01": api.ErrDoc, "1.": api.ErrDoc, `"a`: api.ErrDoc, "nul": api.ErrDoc, "\xff": api.ErrDoc, "\x00": api.ErrDoc, "\v": api.ErrDoc, "\u00a0": api.ErrDoc, `{"a":1,}`: api.ErrDoc, deep: api.ErrDepth, crowd: api.ErrBig, long: api.ErrBig, "1e99": api.ErrBig} {
		for _, ahead := range []string{"", " ", "1 ", "1\n[2] ", `{"a":[]}`, `"x"`, "null ", strings.Repeat("1 ", 62), strings.Repeat("[]", 63)} {
			for _, behind := range []string{"", " ", "\n1", " [", " x", " " + deep, " 1e99", strings.Repeat(" 1", 100)} {
				if want != api.ErrDoc || behind == "" || behind == " " {
					isAllFault(t, ahead+s+behind, want)
				}
			}
		}
	}
	isAllFault(t, "1 x", api.ErrDoc)
	isAllFault(t, "1,2", api.ErrDoc)
	isAllFault(t, "1-2", api.ErrDoc)
	isAllFault(t, "1 2 ]", api.ErrDoc)
	isAllFault(t, "[1]]", api.ErrDoc)
	isAllFault(t, "x 1", api.ErrDoc)
	isAllFault(t, "1\v", api.ErrDoc)
}

// P5.3: of errors in several documents the first document's is told.
func TestAllOfSeveralErrors(t *testing.T) {
	faults := []string{"x", nest(13, ""), "1e99"}
	codes := []api.Errno{api.ErrDoc, api.ErrDepth, api.ErrBig}
	for i, first := range faults {
		for _, second := range faults {
			for _, ahead := range []string{"", "1 ", "[] {} "} {
				isAllFault(t, ahead+first+" "+second, codes[i])
				isAllFault(t, ahead+first+" 1 "+second+" 1", codes[i])
				isAllFault(t, ahead+first+strings.Repeat(" 1", 64)+" "+second, codes[i])
			}
		}
	}
}

// P5.3: 64 documents, and no more; what comes first to last is told so.
func TestAllOfMany(t *testing.T) {
	for _, doc := range []string{"1 ", "[]", "{\"a\":1}\n", `"x"`, listOf(200, "1"), "null"} {
		v, _, _ := text.One(doc)
		for _, count := range []int{63, 64} {
			var want []api.Value
			for range count {
				want = append(want, v)
			}
			s := strings.Repeat(doc, count)
			areRead(t, s, want...)
			areRead(t, " "+s+"\r\n ", want...)
		}
		full := strings.Repeat(doc, 64)
		for _, more := range []string{"1", " null", " 1 x", " 1 " + nest(13, ""), " 1 [", doc, doc + doc, strings.Repeat(doc, 1000)} {
			isAllFault(t, full+more, api.ErrBig)
		}
		for more, want := range map[string]api.Errno{"x": api.ErrDoc, "]": api.ErrDoc, ",": api.ErrDoc, "\x00": api.ErrDoc, "\v": api.ErrDoc, nest(13, ""): api.ErrDepth, " 1e99": api.ErrBig, " [1": api.ErrDoc, "\n01": api.ErrDoc} {
			isAllFault(t, full+more, want) // what is no document is not one too many
		}
		isAllFault(t, strings.Repeat(doc, 63)+"x"+full, api.ErrDoc)
	}
}

// P5.3: rows of any documents, each as One reads it.
func TestAllAsOne(t *testing.T) {
	chance := rand.New(rand.NewPCG(5, 3))
	counts := map[api.Errno]int{}
	for range 3000 {
		s := ""
		for range chance.IntN(70) {
			s += anyDocument(chance, 1+chance.IntN(3)) + " "
		}
		if chance.IntN(3) == 0 {
			s += []string{"x", "[", nest(13, ""), "1e99", "01"}[chance.IntN(5)]
		}
		var want []api.Value
		code := api.OK
		for rest := s; strings.TrimLeft(rest, "\x20\x09\x0a\x0d") != "" && code == api.OK; {
			v, n, e := wanted(rest)
			code, rest = e, rest[n:]
			want = append(want, v)
			if e == api.OK && len(want) > 64 {
				code = api.ErrBig
			}
		}
		counts[code]++
		if code != api.OK {
			isAllFault(t, s, code)
		} else {
			areRead(t, s, want...)
		}
	}
	if counts[api.OK] < 500 || counts[api.ErrDoc] < 100 || counts[api.ErrDepth] < 50 || counts[api.ErrBig] < 100 {
		t.Error("the row has too few of a kind:", counts)
	}
}

// P5.3, R7: no two lists of an answer share a place, nor of two answers, and each answer is a list of its own.
func TestAllIsOwn(t *testing.T) {
	s := strings.Repeat(`[1,[2],{"a":[3]}]`, 5)
	docs, _ := text.All(s)
	again, _ := text.All(s)
	shareNothing(t, append(append([]api.Value{}, docs...), again...)...)
	for i := range docs[:cap(docs)] {
		docs[:cap(docs)][i] = api.Value{Kind: 77}
	}
	want, _, _ := text.One(s)
	for _, doc := range again {
		if !tree.Same(doc, want) {
			t.Fatal("what was written into one answer is seen in another")
		}
	}
}
