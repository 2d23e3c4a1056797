package chunk

import (
	"strings"

	"selvedge/api"
	"selvedge/attr"
	"selvedge/block"
	"selvedge/line"
)

// collector is what was read of the documents so far.
type collector struct {
	defs  []api.Def
	first map[string]int // of each key: which of defs is its first one
}

// Collect gives the pieces of the documents l, or else the first thing that is wrong.
func Collect(l []api.Source) ([]api.Def, api.Fault) {
	// What is wrong with a document as a whole goes ahead of all that stands in one.
	if f := tooLong(l); f.Code != api.OK {
		return nil, f
	}
	if f := badPath(l); f.Code != api.OK {
		return nil, f
	}
	c := collector{first: map[string]int{}}
	for doc, source := range l {
		if f := c.document(doc, source); f.Code != api.OK {
			return nil, f
		}
	}
	return c.defs, api.Fault{}
}

// tooLong tells whether there are too many documents, or else which one is too long.
func tooLong(l []api.Source) api.Fault {
	if len(l) > api.MaxDocs {
		return api.Fault{Code: api.ErrLong}
	}
	for _, source := range l {
		if len(source.Data) > api.MaxBytes {
			return fault(api.ErrLong, source, 0, "")
		}
	}
	return api.Fault{}
}

// badPath tells which path of a document can't be one, or is the path of one ahead of it.
func badPath(l []api.Source) api.Fault {
	seen := map[string]struct{}{}
	for _, source := range l {
		if _, again := seen[source.Path]; again || !Path(source.Path) {
			return fault(api.ErrPath, source, 0, "")
		}
		seen[source.Path] = struct{}{}
	}
	return api.Fault{}
}

// fault tells what is wrong in a document.
func fault(code api.Errno, source api.Source, number int, name string) api.Fault {
	return api.Fault{Code: code, Path: strings.Clone(source.Path), Line: number, Name: name}
}

// document collects the pieces of a document, up to the first one that is wrong.
func (c *collector) document(doc int, source api.Source) api.Fault {
	lines := line.Split(source.Data)
	for _, p := range block.Fences(source.Data) {
		if !piece(p) {
			continue
		}
		a, ok := attr.Read(p.Open.Info)
		key := a.Name + a.File // only one of the two is there
		switch {
		case !ok || key == "":
			return fault(api.ErrAttr, source, p.Line, "")
		case !c.fits(a, key):
			return fault(api.ErrTwice, source, p.Line, key)
		case len(c.defs) >= api.MaxDefs:
			return fault(api.ErrLong, source, p.Line, "")
		}
		// A piece is Closed: the line that ends it begins where its own lines end.
		from, to := lines[p.First].At, lines[p.Last].At
		c.add(api.Def{Doc: doc, Line: p.Line, From: from, To: to, Attr: a, Key: key, Lines: line.Texts(source.Data[from:to])})
	}
	return api.Fault{}
}

// fits tells whether a piece may come behind what there is of its key.
func (c *collector) fits(a api.Attr, key string) bool {
	at, there := c.first[key]
	if !there {
		return !a.Append
	}
	return a.Append && ofFile(c.defs[at]) == (a.File != "")
}

// add puts d, which fits, behind the others.
func (c *collector) add(d api.Def) {
	if at, there := c.first[d.Key]; there {
		// All pieces of a key are laid out alike: as the first one says.
		a := c.defs[at].Attr
		d.Attr.Style, d.Attr.NoLine, d.Attr.Lang = a.Style, a.NoLine, a.Lang
	} else {
		c.first[d.Key] = len(c.defs)
	}
	c.defs = append(c.defs, d)
}

// piece tells whether a fence is one of a piece.
func piece(p block.Place) bool {
	return p.Closed && p.Open.Indent == 0 && tells(p.Open.Info)
}

// tells tells whether an info has a word that only pieces have, be the rest of it right or not.
func tells(info string) bool {
	from := 0
	for at, r := range info {
		if r == ' ' || r == '\t' {
			if pieceWord(info[from:at]) {
				return true
			}
			from = at + 1
		}
	}
	return pieceWord(info[from:])
}

// pieceWord tells whether w is such a word.
func pieceWord(w string) bool {
	return strings.HasPrefix(w, "name=") || strings.HasPrefix(w, "file=") || strings.HasPrefix(w, "comment=") || w == "append" || w == "noline"
}
