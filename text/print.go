package text

import (
	"strconv"
	"strings"

	"bowdler/api"
	"bowdler/dec"
	"bowdler/quote"
)

// Print writes a value without blanks, and without its masks.
func Print(v api.Value) string {
	var out strings.Builder
	write(&out, v)
	return out.String()
}

// write is Print of a value, behind what is out. Of one that may not be it writes what it finds: no kind, no bytes.
func write(out *strings.Builder, v api.Value) {
	switch v.Kind {
	case api.Null:
		out.WriteString("null")
	case api.False:
		out.WriteString("false")
	case api.True:
		out.WriteString("true")
	case api.Number:
		out.WriteString(dec.Print(v.Num))
	case api.Text:
		out.WriteString(quote.Quote(v.Text))
	case api.List:
		writeRow(out, '[', ']', len(v.Kids), func(i int) {
			write(out, v.Kids[i])
		})
	case api.Object:
		writeRow(out, '{', '}', min(len(v.Keys), len(v.Kids)), func(i int) {
			out.WriteString(quote.Quote(v.Keys[i]))
			out.WriteByte(':')
			write(out, v.Kids[i])
		})
	case api.Poison:
		out.WriteString("!" + strconv.Itoa(int(v.Code)))
	}
}

// writeRow writes so many items with commas between.
func writeRow(out *strings.Builder, begin, end byte, count int, item func(i int)) {
	out.WriteByte(begin)
	for i := range count {
		if i > 0 {
			out.WriteByte(',')
		}
		item(i)
	}
	out.WriteByte(end)
}
