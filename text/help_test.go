package text_test

import (
	"encoding/json"
	"fmt"
	"math/rand/v2"
	"regexp"
	"slices"
	"strings"
	"testing"
	"unicode/utf8"

	"bowdler/api"
	"bowdler/dec"
	"bowdler/text"
	"bowdler/tree"
)

var (
	null = api.Value{Kind: api.Null}
	no   = api.Value{Kind: api.False}
	yes  = api.Value{Kind: api.True}
)

func number(s string) api.Value {
	n, e := dec.Parse(s)
	if e != api.OK {
		panic(s)
	}
	return api.Value{Kind: api.Number, Num: n}
}

func word(s string) api.Value { return api.Value{Kind: api.Text, Text: s} }

func list(kids ...api.Value) api.Value { return api.Value{Kind: api.List, Kids: kids} }

// object takes keys with commas between: none of an empty text.
func object(keys string, kids ...api.Value) api.Value {
	v := api.Value{Kind: api.Object, Kids: kids}
	if len(kids) > 0 {
		v.Keys = strings.Split(keys, ",")
	}
	return v
}

// isRead holds what One tells of a document.
func isRead(t *testing.T, s string, want api.Value, size int) {
	t.Helper()
	v, n, e := text.One(s)
	if e != api.OK || n != size || !tree.Same(v, want) {
		t.Errorf("One(%.200q): %.300s, %d, %d; wanted %.300s, %d", s, fmt.Sprint(v), n, e, fmt.Sprint(want), size)
	}
}

// isFault holds that One tells an error of s, and nothing beside it.
func isFault(t *testing.T, s string, want api.Errno) {
	t.Helper()
	v, n, e := text.One(s)
	if e != want || n != 0 || !tree.Same(v, api.Value{}) {
		t.Errorf("One(%.200q) of %d bytes: %.300s, %d, %d; wanted %d", s, len(s), fmt.Sprint(v), n, e, want)
	}
}

// listOf is a list of so many items, as a text.
func listOf(count int, item string) string {
	return "[" + strings.TrimSuffix(strings.Repeat(item+",", count), ",") + "]"
}

// nest is an item in so many lists, as a text.
func nest(levels int, item string) string {
	return strings.Repeat("[", levels) + item + strings.Repeat("]", levels)
}

var (
	blankBytes  = regexp.MustCompile(`^[ \t\n\r]*`)
	numberBytes = regexp.MustCompile(`^[-0-9+.eE]+`)
	numberForm  = regexp.MustCompile(`^-?(?:0|[1-9][0-9]*)(?:\.[0-9]+)?(?:[eE][-+]?[0-9]{1,2})?$`)
	quotedForm  = regexp.MustCompile(`^"(?:[^"\\\x00-\x1f]|\\["\\/bfnrt]|\\u(?:[0-9a-cA-Ce-fE-F][0-9a-fA-F]{3}|[dD][0-7][0-9a-fA-F]{2}|[dD][89abAB][0-9a-fA-F]{2}\\u[dD][c-fC-F][0-9a-fA-F]{2}))*"`)
	wordForm    = regexp.MustCompile(`^(?:null|false|true)`)
)

// reading is a reader of documents that first reads all of one, all members with it, and then asks of its bounds.
type reading struct {
	rest string
	big  bool
}

func (r *reading) skip() { r.rest = r.rest[len(blankBytes.FindString(r.rest)):] }

func (r *reading) sign(sign string) bool {
	r.skip()
	rest, ok := strings.CutPrefix(r.rest, sign)
	r.rest = rest
	return ok
}

func (r *reading) quoted() (string, bool) {
	r.skip()
	found := quotedForm.FindString(r.rest)
	r.rest = r.rest[len(found):]
	var s string
	if found == "" || !utf8.ValidString(found) || json.Unmarshal([]byte(found), &s) != nil {
		return "", false
	}
	r.big = r.big || len(s) > 4096
	return s, true
}

func (r *reading) number() (api.Value, bool) {
	found := numberBytes.FindString(r.rest)
	r.rest = r.rest[len(found):]
	n, e := dec.Parse(found)
	r.big = r.big || e == api.ErrBig
	return api.Value{Kind: api.Number, Num: n}, numberForm.MatchString(found)
}

// document reads one; members with one key all stay.
func (r *reading) document() (api.Value, bool) {
	r.skip()
	switch {
	case r.sign("["):
		return r.row(api.Value{Kind: api.List}, "]")
	case r.sign("{"):
		return r.row(api.Value{Kind: api.Object}, "}")
	case strings.HasPrefix(r.rest, `"`):
		s, ok := r.quoted()
		return word(s), ok
	}
	if found := wordForm.FindString(r.rest); found != "" {
		r.rest = r.rest[len(found):]
		return map[string]api.Value{"null": null, "false": no, "true": yes}[found], true
	}
	return r.number()
}

func (r *reading) row(v api.Value, end string) (api.Value, bool) {
	for first := true; ; first = false {
		if first && r.sign(end) {
			return v, true
		}
		if v.Kind == api.Object {
			key, ok := r.quoted()
			if !ok || !r.sign(":") {
				return v, false
			}
			v.Keys = append(v.Keys, key)
		}
		kid, ok := r.document()
		if !ok {
			return v, false
		}
		v.Kids = append(v.Kids, kid)
		if r.sign(end) {
			return v, true
		}
		if !r.sign(",") {
			return v, false
		}
	}
}

// crowded tells whether a list or an object has more kids than may be.
func crowded(v api.Value) bool { return len(v.Kids) > 200 || slices.ContainsFunc(v.Kids, crowded) }

// counting is v with the members alone that count.
func counting(v api.Value) api.Value {
	w := api.Value{Kind: v.Kind, Num: v.Num, Text: v.Text}
	for i, kid := range v.Kids {
		kid = counting(kid)
		if v.Kind == api.Object {
			if place := slices.Index(w.Keys, v.Keys[i]); place >= 0 {
				w.Kids[place] = kid
				continue
			}
			w.Keys = append(w.Keys, v.Keys[i])
		}
		w.Kids = append(w.Kids, kid)
	}
	return w
}

// wanted is One as that reader tells it.
func wanted(s string) (api.Value, int, api.Errno) {
	r := reading{rest: s}
	all, ok := r.document()
	nodes, depth := tree.Size(all)
	switch {
	case !ok:
		return api.Value{}, 0, api.ErrDoc
	case depth > 12:
		return api.Value{}, 0, api.ErrDepth
	case r.big || nodes > 400 || crowded(all):
		return api.Value{}, 0, api.ErrBig
	}
	return counting(all), len(s) - len(r.rest), api.OK
}

// check holds One of s against that reader, and that what it tells may be; it tells the error.
func check(t *testing.T, s string) api.Errno {
	t.Helper()
	v, n, e := text.One(s)
	want, size, code := wanted(s)
	if e != code || n != size || !tree.Same(v, want) || e == api.OK && !tree.May(v) {
		t.Fatalf("One(%.1000q): %.300s, %d, %d; wanted %.300s, %d, %d", s, fmt.Sprint(v), n, e, fmt.Sprint(want), size, code)
	}
	return e
}

// anyDocument writes a document of no more than so many levels, with any blanks in it; some of its keys are the same.
func anyDocument(chance *rand.Rand, levels int) string {
	blank := func() string { return []string{"", "", "", " ", "\t", "\n", "\r", " \r\n"}[chance.IntN(8)] }
	keys := []string{`"a"`, `"b"`, `"\u0061"`, `""`, `"é"`, `"a\nb"`}
	kind := chance.IntN(8)
	if levels > 1 {
		kind = 4 + chance.IntN(6)
	}
	count := chance.IntN(4)
	var items []string
	for range count {
		if levels <= 1 || kind < 6 {
			break
		}
		item := anyDocument(chance, levels-1)
		if kind >= 8 {
			item = blank() + keys[chance.IntN(len(keys))] + blank() + ":" + item
		}
		items = append(items, item)
	}
	row := strings.Join(items, ",")
	if count == 0 {
		row = blank()
	}
	switch kind {
	case 0, 1, 2:
		row = []string{"null", "false", "true"}[kind]
	case 3, 4:
		row = []string{"0", "-0", "1", "-1.50", "1e2", "2.5E-3", "1e+59", "0e99", "12345678901234567890", "1E00"}[chance.IntN(10)]
	case 5:
		row = []string{`""`, `"a"`, `"\"\\\/"`, `"\u00e9é"`, `"[1,2]"`, `"\ud83d\ude00"`, `" : "`, `"}"`}[chance.IntN(8)]
	case 6, 7:
		row = "[" + row + "]"
	default:
		row = "{" + row + "}"
	}
	return blank() + row + blank()
}
