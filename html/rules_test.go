package html

import (
	"fmt"
	"strings"
	"testing"
	"unsafe"

	"selvedge/api"
)

// nestedInlines gives a text within inlines, each of which is the only one in the next.
func nestedInlines(deep int, text string) []api.Inline {
	l := []api.Inline{{Text: text}}
	for n := range deep - 1 {
		l = []api.Inline{{Kind: []int{api.Em, api.Strong, api.Link}[n%3], Kids: l}}
	}
	return l
}

// nestedBlocks gives a Break within blocks, in the same way.
func nestedBlocks(deep int) api.Block {
	b := api.Block{Kind: api.Break}
	for n := range deep - 1 {
		b = api.Block{Kind: n % 4, Kids: []api.Block{b}}
	}
	return b
}

func TestWhatIsNested(t *testing.T) {
	const deep = 1 << 16
	got := Inlines(nestedInlines(deep, "a"))
	if strings.Count(got, "a>") != strings.Count(got, "<a ") || strings.Count(got, "<em>") != (deep+1)/3 || !strings.Contains(got, "<em>a</em>") || !Balanced(got) {
		t.Error("P13.1: Inlines of what is nested as deep as may be is not whole")
	}
	got = Block(nestedBlocks(deep))
	if strings.Count(got, "<ul>") != deep/4 || strings.Count(got, "<hr />") != 1 || !Balanced(got) {
		t.Error("P13.1: Block of what is nested as deep as may be is not whole")
	}
	text := strings.Repeat("*a ", deep/2) + strings.Repeat("b* ", deep/2)
	got = Block(api.Block{Kind: api.Para, Text: text})
	if want := "<p>" + strings.Repeat("<em>a ", deep/2) + strings.Repeat("b</em> ", deep/2) + "</p>\n"; got != want {
		t.Error("P13.1: Block of a Para of much that is nested is not whole")
	}
	// Deeper still: calls end, and no more.
	if !Balanced(Inlines(nestedInlines(1<<21, "a"))) || !Balanced(Block(nestedBlocks(1<<21))) {
		t.Error("R1: a page of what is nested deeper than may be is not balanced")
	}
	Block(api.Block{Kind: api.Para, Text: strings.Repeat("*a ", 1<<18) + strings.Repeat("b* ", 1<<18)})
}

func TestRingsEnd(t *testing.T) {
	for kind := range 10 {
		inlines := []api.Inline{{Text: "a"}, {Kind: kind}}
		inlines[1].Kids = inlines
		if got := Inlines(inlines); !strings.HasPrefix(got, "a") || !Balanced(got) || (kind == api.Em) != strings.HasPrefix(got, "a<em>a<em>") {
			t.Errorf("R1: Inlines of a row that is among the Kids of its own kind %d", kind)
		}
		blocks := []api.Block{{Kind: api.Break}, {Kind: kind}}
		blocks[1].Kids = blocks
		if got := Block(api.Block{Kids: blocks}); !strings.HasPrefix(got, "<hr />\n") || !Balanced(got) || (kind == api.Quote) != strings.HasPrefix(got, "<hr />\n<blockquote>\n<hr />\n<blockquote>\n") {
			t.Errorf("R1: Block of a row that is among the Kids of its own kind %d", kind)
		}
	}
	// Two ways on in each: there are more ways than can be gone.
	twice := []api.Inline{{Kind: api.Em}, {Kind: api.Em}}
	twice[0].Kids, twice[1].Kids = twice, twice
	docs := []api.Block{{Kind: api.Doc}, {Kind: api.Doc, Text: "read, but not shown"}}
	docs[0].Kids, docs[1].Kids = docs, docs
	quotes := []api.Block{{Kind: api.Quote}, {Kind: api.Quote}}
	quotes[0].Kids, quotes[1].Kids = quotes, quotes
	for name, got := range map[string]string{"inlines": Inlines(twice), "Docs": Block(docs[0]), "Quotes": Block(quotes[0])} {
		if !Balanced(got) || (got == "") != (name == "Docs") {
			t.Errorf("R1: a page of %s with two ways on in each is %d bytes", name, len(got))
		}
	}
	for most := range 300 {
		some := page{most: most}
		some.inlines(twice, mostNested-50)
		// Nothing begins on a page that has more than most: what has begun ends.
		if n := some.text.Len(); n < min(most, 9*50) || n > most+60*9 || !Balanced(some.text.String()) {
			t.Errorf("R1: of at most %d, %d bytes of inlines are shown", most, n)
		}
		some = page{most: most}
		some.blocks(quotes, mostNested-50)
		if n := some.text.Len(); n < min(most, 27*50) || n > most+60*27 || !Balanced(some.text.String()) {
			t.Errorf("R1: of at most %d, %d bytes of blocks are shown", most, n)
		}
		some = page{most: most}
		some.blocks(docs, 1)
		if some.text.Len() > 0 {
			t.Errorf("R1: of at most %d, Docs are shown", most)
		}
	}
}

// What is nested too deep ends the page, but not what has begun on it.
func TestTooDeep(t *testing.T) {
	row := []api.Inline{{Kind: api.Strong, Kids: []api.Inline{{Kind: api.Em, Kids: []api.Inline{{Text: "a"}}}, {Text: "b"}}}, {Text: "c"}}
	for _, c := range []struct {
		deep int
		want string
	}{{mostNested - 2, "<strong><em>a</em>b</strong>c"}, {mostNested - 1, "<strong><em></em></strong>"}, {mostNested, "<strong></strong>"}, {mostNested + 1, ""}} {
		some := page{most: 1000}
		some.inlines(row, c.deep)
		if got := some.text.String(); got != c.want {
			t.Errorf("R1: of inlines nested %d, %q is shown, want %q", c.deep, got, c.want)
		}
	}
	blocks := []api.Block{{Kind: api.Quote, Kids: []api.Block{{Kind: api.Break}, {Kind: api.Break}}}, {Kind: api.Break}}
	for _, c := range []struct{ deep, want int }{{mostNested - 1, 3}, {mostNested, 0}} {
		some := page{most: 1000}
		some.blocks(blocks, c.deep)
		if got := strings.Count(some.text.String(), "<hr />"); got != c.want || !Balanced(some.text.String()) {
			t.Errorf("R1: of blocks nested %d, %d Breaks are shown, want %d", c.deep, got, c.want)
		}
	}
}

// What is read, and what stands on the page, each up to the most.
func TestTheMost(t *testing.T) {
	inlines := []api.Inline{{Text: "a"}, {Text: "bc"}, {Kind: api.Link, Dest: "#defg", Kids: []api.Inline{{Text: "h"}}}, {Kind: 9}, {Text: "i"}}
	for _, c := range []struct {
		most int
		want string
	}{{0, ""}, {1, ""}, {2, "a"}, {4, "a"}, {5, "abc"}, {10, "abc"}, {11, `abc<a href="#"></a>`}, {14, `abc<a href="#"></a>`}, {15, `abc<a href="#">h</a>`}, {19, `abc<a href="#">h</a>`}, {20, `abc<a href="#">h</a>i`}, {100, `abc<a href="#">h</a>i`}} {
		some := page{most: c.most}
		some.inlines(inlines, 1)
		if got := some.text.String(); got != c.want {
			t.Errorf("R1: of at most %d, %q is shown, want %q", c.most, got, c.want)
		}
	}
	// A Text that is not shown is read, too.
	blocks := []api.Block{{Kind: api.Doc, Text: "0123456789"}, {Kind: api.Break}, {Kind: api.Break}, {Kind: api.Break}}
	for _, c := range []struct{ most, want int }{{0, 0}, {10, 0}, {11, 0}, {12, 1}, {13, 2}, {14, 3}, {100, 3}} {
		some := page{most: c.most}
		some.blocks(blocks, 1)
		if got := strings.Count(some.text.String(), "<hr />"); got != c.want {
			t.Errorf("R1: of at most %d, %d Breaks are shown, want %d", c.most, got, c.want)
		}
	}
	if most != 1<<31-1 || mostNested != 1<<16 {
		t.Errorf("R6: the most is %d, nested %d", most, mostNested)
	}
}

// Each rune as a Plain, as Code, in an address and in a Fence.
func TestEveryRune(t *testing.T) {
	for r := range rune(0x3100) {
		want := string(r)
		switch r {
		case '&':
			want = "&amp;"
		case '<':
			want = "&lt;"
		case '>':
			want = "&gt;"
		case '"':
			want = "&quot;"
		}
		in := "a" + string(r) + "b"
		want = "a" + want + "b"
		if got := Inlines([]api.Inline{{Text: in}, {Kind: api.Code, Text: in}, {Kind: api.Link, Dest: in}}); got != want+"<code>"+want+"</code><a href=\""+want+"\"></a>" {
			t.Errorf("P13.1: Inlines of %q = %q", in, got)
		}
		if got := Block(api.Block{Kind: api.Fence, Text: in}); got != "<pre><code>"+want+"</code></pre>\n" {
			t.Errorf("P13.1: Block of a Fence of %q = %q", in, got)
		}
		// A blank ends a tag's name, > the tag: no other rune does.
		if got := Balanced("<" + in + "></a>"); got != (r == ' ' || r == '>') {
			t.Errorf("P13.1: Balanced of a tag %q and one that closes a = %v", in, got)
		}
		if !Balanced("<" + in + "></" + in + ">") {
			t.Errorf("P13.1: Balanced of two tags %q = false", in)
		}
	}
}

// Kinds and Levels far and near.
func TestEveryKind(t *testing.T) {
	for kind := -300; kind < 300; kind++ {
		got := Inlines([]api.Inline{{Kind: kind, Text: "a", Kids: []api.Inline{{Text: "b"}}}})
		if (got == "") != (kind < api.Plain || kind > api.Soft) {
			t.Errorf("P13.1: Inlines of kind %d = %q", kind, got)
		}
		got = Block(api.Block{Kind: kind, Text: "a", Kids: []api.Block{{Kind: api.Break}}})
		if (got == "") != (kind < api.Doc || kind > api.Fence) {
			t.Errorf("P13.1: Block of kind %d = %q", kind, got)
		}
		level := min(max(kind, 1), 6)
		if got, want := Block(api.Block{Kind: api.Heading, Level: kind}), fmt.Sprintf("<h%d></h%d>\n", level, level); got != want {
			t.Errorf("P13.1: Block of a Heading of Level %d = %q", kind, got)
		}
	}
}

// Texts for which looking to the end at each place, or copying all at each, would not end soon.
func TestLongTexts(t *testing.T) {
	const n = 1 << 20
	many := func(s string) string { return strings.Repeat(s, n) }
	for _, c := range []struct {
		name, in string
		want     bool
	}{
		{"<", many("<"), false},
		{">", many(">"), true},
		{"< and one >", many("<") + ">", false},
		{"what is no tag", many("a/ "), true},
		{"tags that stay open", many("<a>"), false},
		{"tags in one another", many("<a>") + many("</a>"), true},
		{"one too few", many("<a>") + many("</a>")[4:], false},
		{"one too many", many("<a>") + many("</a>") + "</a>", false},
		{"tags behind one another", many("<a></a>"), true},
		{"tags that stand alone", many("<a/>"), true},
		{"the last one is not ended", many("<a/>") + "<", false},
		{"a long name", "<" + many("a") + "></" + many("a") + ">", true},
		{"a long name, and another", "<" + many("a") + "></" + many("a") + "b>", false},
		{"a tag of many words", "<a " + many("b ") + "></a>", true},
		{"a tag of many <", "<" + many("<") + "></" + many("<") + ">", true},
	} {
		if got := Balanced(c.in); got != c.want {
			t.Errorf("P13.1: Balanced of %s = %v", c.name, got)
		}
	}
	if got := Inlines(make([]api.Inline, n)); got != "" {
		t.Errorf("P13.1: Inlines of empty Plains = %d bytes", len(got))
	}
	if got := Block(api.Block{Kind: api.Fence, Text: many("<\n")}); got != "<pre><code>"+many("&lt;\n")+"</code></pre>\n" {
		t.Errorf("P13.1: a long Fence is %d bytes", len(got))
	}
	if got := Block(api.Block{Kind: api.Para, Text: many("<a ")}); got != "<p>"+many("&lt;a ")+"</p>\n" {
		t.Errorf("P13.1: a long Para is %d bytes", len(got))
	}
	if got := Block(api.Block{Kind: api.Doc, Kids: make([]api.Block, n)}); got != "" {
		t.Errorf("P13.1: Block of empty Docs = %d bytes", len(got))
	}
	for _, piece := range []string{"> ", "- ", "a\n\n", "- a\n", "`", "*a ", "[", "<ab:", "[a](b) ", "<", "\n", "~~~\n", "# a\n", "***\n", "\xff"} {
		in := strings.Repeat(piece, api.MaxBytes/len(piece))
		if got := Page([]byte(in)); !Balanced(got) {
			t.Errorf("P13.2: a Page of many %q is not balanced", piece)
		}
	}
}

func TestNothingIsChangedOrKept(t *testing.T) {
	word := []byte("word")
	text := unsafe.String(unsafe.SliceData(word), len(word))
	inlines := []api.Inline{{Text: text}, {Kind: api.Code, Text: text}, {Kind: api.Link, Dest: text, Kids: []api.Inline{{Text: text}, {Text: "behind"}}[:1]}, {Text: "behind"}}
	blocks := []api.Block{{Kind: api.Para, Text: text}, {Kind: api.Heading, Text: text}, {Kind: api.Fence, Text: text}, {Kind: api.Quote, Kids: []api.Block{{Kind: api.Break}, {Kind: api.Fence}}[:1]}, {Kind: api.Break}}
	was := fmt.Sprintf("%+v %+v", inlines, blocks)
	alone, row, tree := Inlines(inlines[:1]), Inlines(inlines[:3]), Block(api.Block{Kids: blocks[:4]})
	if got := fmt.Sprintf("%+v %+v", inlines, blocks); got != was {
		t.Errorf("R2: what was handed in is now %s", got)
	}
	clear(word)
	if alone != "word" || row != `word<code>word</code><a href="word">word</a>` {
		t.Errorf("R2, R5: Inlines = %q and %q: memory is shared, or spare room is read", alone, row)
	}
	if tree != "<p>word</p>\n<h1>word</h1>\n<pre><code>word</code></pre>\n<blockquote>\n<hr />\n</blockquote>\n" {
		t.Errorf("R2, R5: Block = %q: memory is shared, or spare room is read", tree)
	}
	whole := []byte("a *b* `c`\n\n~~~\nd\nbehind")
	document := whole[:len(whole)-len("behind")]
	got := Page(document)
	if string(whole) != "a *b* `c`\n\n~~~\nd\nbehind" {
		t.Errorf("R2: the document is now %q", whole)
	}
	clear(whole)
	if got != "<p>a <em>b</em> <code>c</code></p>\n<pre><code>d\n</code></pre>\n" {
		t.Errorf("R2, R5: Page = %q: memory is shared, or spare room is read", got)
	}
}
