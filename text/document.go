package text

import (
	"slices"

	"bowdler/api"
)

// document is what has been read of one so far. Each open level is a sign in a row, and no call, so that no text is too deep to be read; once a bound is passed no more values are held.
type document struct {
	ends   []byte // the signs that end the lists and objects that are open
	open   []row  // these themselves, while no bound is passed
	values int
	value  api.Value // the whole one
	code   api.Errno // of the bounds that are passed
}

// row is a list or an object that is open.
type row struct {
	value api.Value
	count int    // of all members, also those that do not count
	key   string // of the member that is read
}

// state takes the part that comes next, and tells the state behind it: none, if that part may not stand there.
type state func(d *document, p part) state

// read takes one part after the other, up to the end of the document, and tells where that is.
func (d *document) read(next func() (p part, end int)) (end int, ok bool) {
	for now := state(ahead); ; {
		p, end := next()
		now = now(d, p)
		if now == nil {
			return 0, false
		}
		if len(d.ends) == 0 {
			return end, true
		}
	}
}

// ahead is the state in which a document must begin.
func ahead(d *document, p part) state {
	switch {
	case p.sign == '[':
		d.enter(api.List, ']')
		return first
	case p.sign == '{':
		d.enter(api.Object, '}')
		return first
	case p.value.Kind != 0:
		d.begin(p.big)
		d.hold(p.value)
		return behind
	}
	return nil
}

// first is the state behind the sign that opens a list or an object.
func first(d *document, p part) state {
	if d.leave(p.sign) {
		return behind
	}
	return d.item()(d, p)
}

// key is the state in which a member must begin.
func key(d *document, p part) state {
	if p.value.Kind != api.Text {
		return nil
	}
	d.name(p)
	return colon
}

// colon is the state behind a member's key.
func colon(_ *document, p part) state {
	if p.sign == ':' {
		return ahead
	}
	return nil
}

// behind is the state in which a document has ended that is a kid.
func behind(d *document, p part) state {
	switch {
	case p.sign == ',':
		return d.item()
	case d.leave(p.sign):
		return behind
	}
	return nil
}

// item is the state in which a kid of what is open must begin.
func (d *document) item() state {
	if d.ends[len(d.ends)-1] == '}' {
		return key
	}
	return ahead
}

// enter opens a list or an object.
func (d *document) enter(kind int, end byte) {
	d.begin(false)
	d.ends = append(d.ends, end)
	if d.code == api.OK {
		d.open = append(d.open, row{value: api.Value{Kind: kind}})
	}
}

// leave ends the list or the object that is open, if the sign is the one for it.
func (d *document) leave(sign byte) bool {
	last := len(d.ends) - 1
	if d.ends[last] != sign {
		return false
	}
	d.ends = d.ends[:last]
	if d.code == api.OK {
		whole := d.open[last].value
		d.open = d.open[:last]
		d.hold(whole)
	}
	return true
}

// begin counts a value, and asks of the bounds: of a document that is too deep that is told, whatever else it is.
func (d *document) begin(big bool) {
	d.values++
	if len(d.ends) >= api.MaxDepth {
		d.code = api.ErrDepth
	}
	if d.code != api.OK {
		return
	}
	if len(d.open) > 0 {
		d.top().count++
		big = big || d.top().count > api.MaxKids
	}
	if big || d.values > api.MaxNodes {
		d.code = api.ErrBig
	}
}

// name takes a member's key.
func (d *document) name(p part) {
	if d.code != api.OK {
		return
	}
	if p.big {
		d.code = api.ErrBig
	}
	d.top().key = p.value.Text
}

// hold takes a value that has ended into what is open.
func (d *document) hold(v api.Value) {
	if d.code != api.OK {
		return
	}
	if len(d.open) == 0 {
		d.value = v
		return
	}
	d.top().hold(v)
}

func (d *document) top() *row { return &d.open[len(d.open)-1] }

// hold takes a kid: of members with one key the last one, at the place of the first.
func (r *row) hold(kid api.Value) {
	if r.value.Kind == api.Object {
		place := slices.Index(r.value.Keys, r.key)
		if place >= 0 {
			r.value.Kids[place] = kid
			return
		}
		r.value.Keys = append(r.value.Keys, r.key)
	}
	r.value.Kids = append(r.value.Kids, kid)
}
