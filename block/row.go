package block

import (
	"strings"

	"selvedge/api"
	"selvedge/cols"
	"selvedge/fence"
	"selvedge/leaf"
	"selvedge/line"
)

// maxRow is one more than MaxNest: the Doc is in the row, but is no container.
const maxRow = api.MaxNest + 1

// reader is a document of which some lines are read.
type reader struct {
	row    []container // the Doc, and the containers that are open, each in the one ahead of it
	leaf   openLeaf    // in the last of row
	places []Place
}

// container is a Doc, a Quote or an Item that is open: its block has the kids that are closed.
type container struct {
	block  api.Block
	sign   byte // of an Item
	column int  // of an Item: where its content begins
	list   byte // the sign of the List that is the last kid: 0, if the last kid is none
}

// openLeaf is a Para or a Fence that is open; where none is, kind is Doc, which no leaf has.
type openLeaf struct {
	kind, line int
	lines      []string
	open       fence.Open // of a Fence
	ended      bool       // of a Fence: by a line that says so
}

// last gives the innermost of row: what comes next stands in it.
func (r *reader) last() *container {
	return &r.row[len(r.row)-1]
}

// through leads a line through row, first to last, as long as each takes it: how many do, and what is left of the line.
func (r *reader) through(rest string) (int, string) {
	for k, c := range r.row {
		left, ok := c.take(rest)
		if !ok {
			return k, rest
		}
		rest = left
	}
	return len(r.row), rest
}

// begin opens the containers that begin at rest, behind the first k of row: how many of row take the line then, and what is left of it.
func (r *reader) begin(number, k int, rest string) (int, string) {
	for k < maxRow {
		c, left, ok := begins(number, rest)
		if !ok {
			break
		}
		r.closeTo(k)
		r.row = append(r.row, c)
		k, rest = k+1, left
	}
	return k, rest
}

// closeTo closes the open leaf, and of row all but the first k, the innermost first.
func (r *reader) closeTo(k int) {
	r.closeLeaf()
	for len(r.row) > k {
		c := *r.last()
		r.row = r.row[:len(r.row)-1]
		if c.block.Kind == api.Item {
			r.last().addItem(c)
		} else {
			r.last().add(c.block)
		}
	}
}

// closeLeaf closes the open leaf, if there is one.
func (r *reader) closeLeaf() {
	l := r.leaf
	r.leaf = openLeaf{}
	switch l.kind {
	case api.Para:
		r.last().add(api.Block{Kind: api.Para, Text: strings.Join(l.lines, "\n"), Line: l.line})
	case api.Fence:
		r.last().add(api.Block{Kind: api.Fence, Text: string(line.Join(l.lines, "\n")), Info: l.open.Info, Line: l.line})
		if len(r.row) == 1 {
			r.places = append(r.places, l.place())
		}
	}
}

// place tells where l, a Fence, lies: no line of another block is among its own.
func (l openLeaf) place() Place {
	first := l.line + 1
	return Place{Line: l.line, Open: l.open, First: first, Last: first + len(l.lines), Closed: l.ended}
}

// begins tells whether rest, of line number, begins a container, which one, and what of rest stands in it.
func begins(number int, rest string) (container, string, bool) {
	if left, ok := leaf.Quote(rest); ok {
		return container{block: api.Block{Kind: api.Quote, Line: number}}, left, true
	}
	sign, column, left, ok := leaf.Item(rest)
	if !ok {
		return container{}, "", false
	}
	return container{block: api.Block{Kind: api.Item, Line: number}, sign: sign, column: column}, left, true
}

// take tells whether a line of which s is left goes on in c, and what is left of it there.
func (c container) take(s string) (string, bool) {
	switch c.block.Kind {
	case api.Quote:
		return leaf.Quote(s)
	case api.Item:
		return c.takeItem(s)
	}
	return s, true
}

// takeItem is take of an Item: an empty line goes on in it, however far in it is.
func (c container) takeItem(s string) (string, bool) {
	if cols.Empty(s) {
		return s, true
	}
	if indent, _ := cols.Indent(s); indent < c.column {
		return "", false
	}
	return cols.Strip(s, c.column), true
}

// add puts b behind c's kids.
func (c *container) add(b api.Block) {
	c.block.Kids = append(c.block.Kids, b)
	c.list = 0
}

// addItem puts an Item behind c's kids: into the List that is the last of them, if that has its sign, else into one of its own.
func (c *container) addItem(item container) {
	if c.list == item.sign {
		list := &c.block.Kids[len(c.block.Kids)-1]
		list.Kids = append(list.Kids, item.block)
		return
	}
	c.add(api.Block{Kind: api.List, Line: item.block.Line, Kids: []api.Block{item.block}})
	c.list = item.sign
}
