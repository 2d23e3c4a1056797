package html

import (
	"strconv"
	"strings"

	"selvedge/api"
	"selvedge/esc"
	"selvedge/inline"
	"selvedge/link"
)

// What a page goes through at most, and has at most. Nothing is promised beyond it but that calls end: a row that is among its own Kids has no end of its own.
const (
	mostNested = 1 << 16
	most       = 1<<31 - 1 // items and bytes
)

// page is a page that grows. Once it is full nothing begins on it any more: what has begun ends.
type page struct {
	text strings.Builder
	read int // items and bytes
	most int // of what is read, and of what the page has
	full bool
}

// takes tells whether the page shows one more item, of that many bytes and nested deep. One that is nested too deep ends the page, too: in a row that is among its own Kids there may be more and more ways on, and going them all would take long.
func (p *page) takes(bytes, deep int) bool {
	p.read += 1 + bytes
	p.full = p.full || deep > mostNested || p.read > p.most || p.text.Len() > p.most
	return !p.full
}

// put puts texts on the page as they are.
func (p *page) put(texts ...string) {
	for _, s := range texts {
		p.text.WriteString(s)
	}
}

// inlines puts l on the page: it is nested deep.
func (p *page) inlines(l []api.Inline, deep int) {
	for i := range l {
		x := &l[i]
		if !p.takes(len(x.Text)+len(x.Dest), deep) {
			return
		}
		p.inline(x, deep)
	}
}

// inline puts x on the page.
func (p *page) inline(x *api.Inline, deep int) {
	switch x.Kind {
	case api.Plain:
		p.put(esc.Html(x.Text))
	case api.Code:
		p.put("<code>", esc.Html(x.Text), "</code>")
	case api.Em:
		p.stress("em", x.Kids, deep)
	case api.Strong:
		p.stress("strong", x.Kids, deep)
	case api.Link:
		p.put(`<a href="`, address(x.Dest), `">`)
		p.inlines(x.Kids, deep+1)
		p.put("</a>")
	case api.Soft:
		p.put("\n")
	}
}

// stress puts an inline on the page that is a tag around its kids.
func (p *page) stress(tag string, kids []api.Inline, deep int) {
	p.put("<", tag, ">")
	p.inlines(kids, deep+1)
	p.put("</", tag, ">")
}

// address gives dest as a page leads to it: one that isn't safe leads nowhere.
func address(dest string) string {
	if !link.Safe(dest) {
		return "#"
	}
	return esc.Html(dest)
}

// blocks puts l on the page: it is nested deep.
func (p *page) blocks(l []api.Block, deep int) {
	for i := range l {
		b := &l[i]
		if !p.takes(len(b.Text), deep) {
			return
		}
		p.block(b, deep)
	}
}

// block puts b on the page.
func (p *page) block(b *api.Block, deep int) {
	switch b.Kind {
	case api.Doc:
		p.blocks(b.Kids, deep+1)
	case api.Quote:
		p.container("blockquote", b.Kids, deep)
	case api.List:
		p.container("ul", b.Kids, deep)
	case api.Item:
		p.container("li", b.Kids, deep)
	case api.Para:
		p.texts("p", b.Text)
	case api.Heading:
		p.texts("h"+strconv.Itoa(min(max(b.Level, 1), 6)), b.Text)
	case api.Break:
		p.put("<hr />\n")
	case api.Fence:
		p.put("<pre><code>", esc.Html(b.Text), "</code></pre>\n")
	}
}

// container puts a block on the page that is a tag around its kids.
func (p *page) container(tag string, kids []api.Block, deep int) {
	p.put("<", tag, ">\n")
	p.blocks(kids, deep+1)
	p.put("</", tag, ">\n")
}

// texts puts a block on the page that is a tag around the inlines of its text. These are none of what the page was handed: it doesn't count them as read.
func (p *page) texts(tag, text string) {
	p.put("<", tag, ">", Inlines(inline.Parse(text)), "</", tag, ">\n")
}
