package policy

import (
	"strconv"
	"strings"

	"bowdler/api"
	"bowdler/cats"
	"bowdler/path"
	"bowdler/quote"
)

// The words that lines begin with.
const (
	catsWord  = "cats"
	markWord  = "mark"
	tokenWord = "token"
	fuelWord  = "fuel"
	quotaWord = "quota"
)

const (
	blank   = " "
	newline = "\n"
)

// Print writes a policy.
func Print(p api.Policy) string {
	var out strings.Builder
	line := func(word string, others ...string) {
		out.WriteString(word)
		for _, other := range others {
			out.WriteString(blank)
			out.WriteString(other)
		}
		out.WriteString(newline)
	}
	line(catsWord, p.Cats...)
	for _, mark := range p.Marks {
		line(markWord, cats.Names(p.Cats, mark.Mask), path.Print(mark.Path))
	}
	line(tokenWord, quote.Quote(p.Token))
	line(fuelWord, strconv.Itoa(p.Fuel))
	line(quotaWord, strconv.Itoa(p.Quota))
	return out.String()
}

// Parse reads a policy.
func Parse(s string) (api.Policy, api.Errno) {
	p := read(s)
	if May(p) != api.OK || Print(p) != s {
		return api.Policy{}, api.ErrPolicy
	}
	return p, api.OK
}

// read takes from each line what stands there, if Print wrote s. Of another s it is some policy, of which Print isn't s, or one that may not be: so no fault needs to be told here.
func read(s string) api.Policy {
	next := lines(s)
	var p api.Policy
	p.Cats = readCats(next(catsWord))
	for len(p.Marks) < api.MaxRules {
		text := next(markWord)
		if text == "" {
			break
		}
		p.Marks = append(p.Marks, readMark(p.Cats, text))
	}
	p.Token, _, _ = quote.Unquote(strings.TrimPrefix(next(tokenWord), blank))
	p.Fuel = readFuel(next(fuelWord))
	p.Quota = readFuel(next(quotaWord))
	return p
}

// lines goes through s: of the next line it tells what stands behind the word that this begins with; at one that begins with another it stays, and tells nothing.
func lines(s string) func(word string) string {
	return func(word string) string {
		line, rest, _ := strings.Cut(s, newline)
		text, found := strings.CutPrefix(line, word)
		if !found {
			return ""
		}
		s = rest
		return text
	}
}

// readCats reads the names that stand in text, a blank ahead of each. What comes behind as many as may be stays one piece with the last.
func readCats(text string) []string {
	names := strings.SplitN(text, blank, 1+api.MaxCats)[1:]
	for i, name := range names {
		names[i] = strings.Clone(name)
	}
	return names
}

// readMark reads a mark. Its path begins with the first $, as no name has that sign.
func readMark(names []string, text string) api.Mark {
	end := max(strings.Index(text, "$"), 0)
	var mark api.Mark
	mark.Mask, _ = cats.Mask(names, text[:end])
	mark.Path, _ = path.Parse(text[end:])
	return mark
}

// readFuel reads a number behind a blank.
func readFuel(text string) int {
	n, _ := strconv.Atoi(strings.TrimPrefix(text, blank))
	return n
}
