package inline

import (
	"selvedge/api"
	"selvedge/code"
	"selvedge/emph"
	"selvedge/esc"
	"selvedge/link"
)

// reader is a text of which some is read.
type reader struct {
	text     string
	linked   bool // text stands within a Link: no other one begins in it
	brackets brackets
	runs     []emph.Run
	rows     rows // what stands ahead of each of runs, and behind the last
}

// read takes what begins at at, and tells where that ends.
func (r *reader) read(at int) int {
	switch r.text[at] {
	case '`':
		return r.code(at)
	case '<':
		return r.auto(at)
	case '[':
		return r.link(at)
	case '*', '_':
		return r.run(at)
	case '\n':
		r.rows.last().put(api.Inline{Kind: api.Soft})
		return at + 1
	}
	return r.plain(at)
}

// code takes code: a run of ` that begins none is plain as a whole.
func (r *reader) code(at int) int {
	if text, end, ok := code.Span(r.text, at); ok {
		r.rows.last().put(api.Inline{Kind: api.Code, Text: text})
		return end
	}
	end := at + code.Run(r.text, at, '`')
	r.rows.last().say(r.text[at:end])
	return end
}

// auto takes a Link that is its own text.
func (r *reader) auto(at int) int {
	dest, end, ok := link.Auto(r.text, at)
	if !ok || r.linked {
		return r.plain(at)
	}
	var kids row
	kids.say(dest)
	r.rows.last().put(api.Inline{Kind: api.Link, Dest: dest, Kids: kids.all()})
	return end
}

// link takes a Link by brackets.
func (r *reader) link(at int) int {
	if r.linked {
		return r.plain(at)
	}
	to, ok := r.brackets.end(at)
	if !ok {
		return r.plain(at)
	}
	dest, end, ok := link.Dest(r.text, to+1)
	if !ok {
		return r.plain(at)
	}
	// A text of its own: what stands around the brackets bears on no run between them.
	kids := parse(r.text[at+1:to], true)
	r.rows.last().put(api.Inline{Kind: api.Link, Dest: dest, Kids: kids})
	return end
}

// run takes a run of signs: what it means hangs on all others.
func (r *reader) run(at int) int {
	run, end, ok := emph.Kind(r.text, at)
	if !ok {
		return r.plain(at)
	}
	r.runs = append(r.runs, run)
	r.rows = append(r.rows, row{})
	return end
}

// plain takes a rune as it is, or a sign that means itself.
func (r *reader) plain(at int) int {
	said, end, _ := esc.Next(r.text, at)
	r.rows.last().sayRune(said)
	return end
}
