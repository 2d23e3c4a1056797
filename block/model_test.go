package block

import (
	"math/rand"
	"reflect"
	"slices"
	"strings"
	"testing"

	"selvedge/api"
	"selvedge/cols"
	"selvedge/fence"
	"selvedge/leaf"
	"selvedge/line"
	"selvedge/runes"
)

// node is a block of the model: the chapter said once more, clause by clause, on a tree in which each node knows whether it is open. What is slow or said twice here shows that nothing is lost where the program says it once.
type node struct {
	kind, line int
	open       bool
	kids       []*node // of a Doc, Quote, Item; Items stand here without a List
	sign       byte
	column     int
	lines      []string
	level      int
	fence      fence.Open
	ended      bool
}

// model reads a document.
func model(text string) *node {
	doc := &node{kind: api.Doc, open: true}
	if len(text) > api.MaxBytes {
		text = text[:api.MaxBytes]
	}
	for number, l := range line.Texts([]byte(text)) {
		doc.read(number, runes.Text([]byte(l)))
	}
	return doc
}

// containers gives the open containers, the outermost first.
func (doc *node) containers() []*node {
	var l []*node
	for n := doc; ; {
		next := n.openKid()
		if next == nil || next.kind != api.Quote && next.kind != api.Item {
			return l
		}
		l, n = append(l, next), next
	}
}

// openKid gives the last kid, if it is open.
func (n *node) openKid() *node {
	if len(n.kids) == 0 || !n.kids[len(n.kids)-1].open {
		return nil
	}
	return n.kids[len(n.kids)-1]
}

// shut closes n and all that is open in it.
func (n *node) shut() {
	if n == nil {
		return
	}
	n.openKid().shut()
	n.open = false
}

func (n *node) takes(s string) (string, bool) {
	if n.kind == api.Quote {
		return leaf.Quote(s)
	}
	indent, _ := cols.Indent(s)
	switch {
	case cols.Empty(s):
		return s, true
	case indent >= n.column:
		return cols.Strip(s, n.column), true
	}
	return "", false
}

func (doc *node) read(number int, text string) {
	open := doc.containers()
	last, taker, rest, k := doc, doc, text, 0
	if len(open) > 0 {
		last = open[len(open)-1]
	}
	for _, n := range open {
		left, ok := n.takes(rest)
		if !ok {
			break
		}
		taker, rest, k = n, left, k+1
	}
	tip := last.openKid()
	all := k == len(open)
	if all && tip != nil && tip.kind == api.Fence {
		if fence.Ends(tip.fence, rest) {
			tip.open, tip.ended = false, true
		} else {
			tip.lines = append(tip.lines, cols.Strip(rest, tip.fence.Indent))
		}
		return
	}
	begun := false
	for k < api.MaxNest {
		next := &node{kind: api.Quote, line: number, open: true}
		left, ok := leaf.Quote(rest)
		if !ok {
			next.kind = api.Item
			next.sign, next.column, left, ok = leaf.Item(rest)
		}
		if !ok {
			break
		}
		taker.openKid().shut()
		taker.kids = append(taker.kids, next)
		taker, rest, begun, k = next, left, true, k+1
	}
	isPara := tip != nil && tip.open && tip.kind == api.Para
	if next := single(number, rest); next != nil {
		taker.openKid().shut()
		taker.kids = append(taker.kids, next)
	} else if cols.Empty(rest) {
		taker.openKid().shut()
	} else if isPara && !begun {
		tip.lines = append(tip.lines, strings.Trim(rest, " \t"))
	} else {
		taker.openKid().shut()
		taker.kids = append(taker.kids, &node{kind: api.Para, line: number, open: true, lines: []string{strings.Trim(rest, " \t")}})
	}
}

// single gives the leaf that rest begins by itself, if it does.
func single(number int, rest string) *node {
	if level, text, ok := leaf.Heading(rest); ok {
		return &node{kind: api.Heading, line: number, level: level, lines: []string{text}}
	}
	if leaf.Break(rest) {
		return &node{kind: api.Break, line: number}
	}
	if f, ok := fence.Begins(rest); ok {
		return &node{kind: api.Fence, line: number, open: true, fence: f}
	}
	return nil
}

// tree gives n as a Block, its Items in Lists: neighbours of one sign in one.
func (n *node) tree() api.Block {
	b := api.Block{Kind: n.kind, Level: n.level, Line: n.line, Text: strings.Join(n.lines, "\n"), Info: n.fence.Info}
	if n.kind == api.Fence && len(n.lines) > 0 {
		b.Text += "\n"
	}
	var sign byte
	for _, k := range n.kids {
		switch {
		case k.kind != api.Item:
			b.Kids = append(b.Kids, k.tree())
		case k.sign != sign:
			b.Kids = append(b.Kids, api.Block{Kind: api.List, Line: k.line, Kids: []api.Block{k.tree()}})
		default:
			list := &b.Kids[len(b.Kids)-1]
			list.Kids = append(list.Kids, k.tree())
		}
		sign = k.sign
	}
	return b
}

// places gives where n's own Fences lie.
func (n *node) places() []Place {
	var l []Place
	for _, k := range n.kids {
		if k.kind == api.Fence {
			l = append(l, Place{k.line, k.fence, k.line + 1, k.line + 1 + len(k.lines), k.ended})
		}
	}
	return l
}

// holdModel holds Parse and Fences against the model.
func holdModel(t *testing.T, text string) {
	t.Helper()
	want := model(text)
	if got := Parse([]byte(text)); !reflect.DeepEqual(got, want.tree()) {
		t.Fatalf("P7.1, P7.2: Parse(%q):\n got %s\nwant %s", text, tell(got), tell(want.tree()))
	}
	if got := Fences([]byte(text)); !slices.Equal(got, want.places()) {
		t.Fatalf("P7.3: Fences(%q) = %+v, want %+v", text, got, want.places())
	}
}

// eachText calls f with every row of at most most of parts.
func eachText(parts []string, most int, f func(string)) {
	level := []string{""}
	for range most + 1 {
		var next []string
		for _, s := range level {
			f(s)
			for _, p := range parts {
				next = append(next, s+p)
			}
		}
		level = next
	}
}

func TestEveryShortDocument(t *testing.T) {
	hold := func(s string) { holdModel(t, s) }
	eachText([]string{"\n", " ", ">", "-", "a"}, 7, hold)
	eachText([]string{"\n", "  ", "> ", "- ", "~~~", "a"}, 6, hold)
	eachText([]string{"\n", "\t", ">", "* ", "+ ", "# ", "~~~"}, 5, hold)
	eachText([]string{"a\n", "\n", "> a\n", ">\n", "- a\n", "  a\n", "-\n", "# a\n", "~~~\n", "> ~~~\n", "- ~~~\n", "* a\n"}, 4, hold)
}

// randomText gives a document of at most most lines, with containers ahead of texts.
func randomText(r *rand.Rand, most int) string {
	var b strings.Builder
	for range r.Intn(most + 1) {
		for range r.Intn(4) {
			b.WriteString([]string{"> ", ">", "- ", "-", "* ", "+   ", "  ", " ", "\t", "    "}[r.Intn(10)])
		}
		b.WriteString([]string{"a", "b c", "", "", " d ", "# e", "---", "~~~", "~~~~ x", "```", "``` y", "\xff", "=="}[r.Intn(13)])
		b.WriteString([]string{"\n", "\n", "\n", "\r\n", "\r"}[r.Intn(5)])
	}
	return b.String()
}

func TestRandomDocuments(t *testing.T) {
	r := rand.New(rand.NewSource(1))
	for range 30000 {
		holdModel(t, randomText(r, 12))
	}
	for range 40 {
		holdModel(t, randomText(r, 30000))
	}
}

// moved gives l with each Line by many lines further down.
func moved(l []api.Block, many int) []api.Block {
	var out []api.Block
	for _, b := range l {
		b.Line += many
		b.Kids = moved(b.Kids, many)
		out = append(out, b)
	}
	return out
}

// A document in a quote, or in an item, is read as it is alone.
func TestDocumentsInContainers(t *testing.T) {
	r := rand.New(rand.NewSource(2))
	for range 20000 {
		text := randomText(r, 10)
		alone := Parse([]byte(text)).Kids
		var quoted, listed strings.Builder
		quoted.WriteString(">\n")
		listed.WriteString("-\n")
		for _, l := range line.Texts([]byte(text)) {
			quoted.WriteString("> " + l + "\n")
			// An empty line is left whole; a tab would end at another column than alone.
			if !cols.Empty(l) {
				l = "  " + l
			}
			listed.WriteString(l + "\n")
		}
		want := []api.Block{{Kind: api.Quote, Kids: moved(alone, 1)}}
		if got := Parse([]byte(quoted.String())).Kids; !reflect.DeepEqual(got, want) {
			t.Fatalf("P7.1: %q in a quote: %s, want %s", text, tellAll(got), tellAll(want))
		}
		if strings.Contains(text, "\t") {
			continue
		}
		want = []api.Block{{Kind: api.List, Kids: []api.Block{{Kind: api.Item, Kids: moved(alone, 1)}}}}
		if got := Parse([]byte(listed.String())).Kids; !reflect.DeepEqual(got, want) {
			t.Fatalf("P7.1: %q in an item: %s, want %s", text, tellAll(got), tellAll(want))
		}
	}
}

// A heading closes all but a Fence that is in no container: what is ahead and what is behind are read as each alone.
func TestDocumentsBehindOneAnother(t *testing.T) {
	r := rand.New(rand.NewSource(3))
	for range 20000 {
		ahead, behind := randomText(r, 8), randomText(r, 8)
		if f := Fences([]byte(ahead)); len(f) > 0 && !f[len(f)-1].Closed {
			continue
		}
		lines := len(line.Texts([]byte(ahead)))
		want := append(Parse([]byte(ahead)).Kids, api.Block{Kind: api.Heading, Level: 1, Text: "x", Line: lines})
		want = append(want, moved(Parse([]byte(behind)).Kids, lines+1)...)
		if got := Parse([]byte(ahead + "# x\n" + behind)).Kids; !reflect.DeepEqual(got, want) {
			t.Fatalf("P7.1: %q, a heading, %q: %s, want %s", ahead, behind, tellAll(got), tellAll(want))
		}
	}
}

// The lines that a Fence's Place tells are those that its Block has.
func TestFencesAreThoseOfParse(t *testing.T) {
	r := rand.New(rand.NewSource(4))
	for range 20000 {
		text := randomText(r, 12)
		lines := line.Texts([]byte(text))
		var got, want []api.Block
		for _, p := range Fences([]byte(text)) {
			var own strings.Builder
			for _, l := range lines[p.First:p.Last] {
				own.WriteString(cols.Strip(runes.Text([]byte(l)), p.Open.Indent) + "\n")
			}
			got = append(got, api.Block{Kind: api.Fence, Text: own.String(), Info: p.Open.Info, Line: p.Line})
			if p.Closed != (p.Last < len(lines)) || p.Closed && !fence.Ends(p.Open, lines[p.Last]) {
				t.Fatalf("P7.3: %q: a wrong end: %+v", text, p)
			}
		}
		for _, k := range Parse([]byte(text)).Kids {
			if k.Kind == api.Fence {
				want = append(want, k)
			}
		}
		if !reflect.DeepEqual(got, want) {
			t.Fatalf("P7.3: Fences of %q tell %s, want %s", text, tellAll(got), tellAll(want))
		}
	}
}
