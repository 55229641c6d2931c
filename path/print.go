package path

import (
	"strconv"
	"strings"

	"bowdler/api"
	"bowdler/cats"
	"bowdler/quote"
)

// What is written: where all begins, and the steps that have nothing of their own.
const (
	root   = "$"
	anyKey = ".*"
	anyAt  = "[*]"
	deep   = "**"
)

// Print writes a pattern.
func Print(l []api.Step) string {
	var out strings.Builder
	out.WriteString(root)
	for _, step := range l {
		out.WriteString(printStep(step))
	}
	return out.String()
}

// printStep writes a step; one of a kind that is none is nothing.
func printStep(step api.Step) string {
	switch step.Kind {
	case api.StKey:
		if cats.MayName(step.Key) {
			return "." + step.Key
		}
		return "[" + quote.Quote(step.Key) + "]"
	case api.StAt:
		return "[" + strconv.Itoa(step.N) + "]"
	case api.StAnyKey:
		return anyKey
	case api.StAny:
		return anyAt
	case api.StDeep:
		return deep
	}
	return ""
}

// Parse reads a pattern.
func Parse(s string) ([]api.Step, api.Errno) {
	var l []api.Step
	count := 0
	whole := readSteps(s, func(step api.Step) {
		if count++; count <= api.MaxSteps {
			l = append(l, step)
		}
	})
	switch {
	case !whole:
		return nil, api.ErrPath
	case count > api.MaxSteps:
		return nil, api.ErrBig
	}
	return l, api.OK
}

// readSteps gives each step of s to take, up to what is none; it tells whether there was no such thing.
func readSteps(s string, take func(api.Step)) bool {
	rest, found := strings.CutPrefix(s, root)
	if !found {
		return false
	}
	for rest != "" {
		step, length := readStep(rest)
		// There are more ways to write a step than the one that Print has.
		if !mayStep(step) || printStep(step) != rest[:length] {
			return false
		}
		take(step)
		rest = rest[length:]
	}
	return true
}

// readStep is the step that s most likely begins with, and how many bytes it has there.
func readStep(s string) (api.Step, int) {
	switch {
	case strings.HasPrefix(s, deep):
		return api.Step{Kind: api.StDeep}, len(deep)
	case strings.HasPrefix(s, anyKey):
		return api.Step{Kind: api.StAnyKey}, len(anyKey)
	case strings.HasPrefix(s, anyAt):
		return api.Step{Kind: api.StAny}, len(anyAt)
	case strings.HasPrefix(s, "."):
		return readPlainKey(s)
	case strings.HasPrefix(s, `["`):
		return readQuotedKey(s)
	case strings.HasPrefix(s, "["):
		return readAt(s)
	}
	return api.Step{}, 0
}

// readPlainKey reads a point and a key, up to where another step begins.
func readPlainKey(s string) (api.Step, int) {
	length := len(s)
	if next := strings.IndexAny(s[1:], ".[*"); next >= 0 {
		length = 1 + next
	}
	return api.Step{Kind: api.StKey, Key: strings.Clone(s[1:length])}, length
}

// readQuotedKey reads a key that stands quoted in brackets.
func readQuotedKey(s string) (api.Step, int) {
	key, length, e := quote.Unquote(s[1:])
	if e != api.OK || !strings.HasPrefix(s[1+length:], "]") {
		return api.Step{}, 0
	}
	return api.Step{Kind: api.StKey, Key: key}, length + len("[]")
}

// readAt reads a place of a list, in brackets.
func readAt(s string) (api.Step, int) {
	digits, _, found := strings.Cut(s[1:], "]")
	n, err := strconv.Atoi(digits)
	if !found || err != nil {
		return api.Step{}, 0
	}
	return api.Step{Kind: api.StAt, N: n}, len(digits) + len("[]")
}
