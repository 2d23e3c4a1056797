package html

import (
	unescape "html"
	"math/rand"
	"regexp"
	"slices"
	"strconv"
	"strings"
	"testing"

	"selvedge/api"
	"selvedge/block"
	"selvedge/esc"
	"selvedge/inline"
	"selvedge/link"
)

// modelInlines reads the chapter's clauses on inlines one by one: what it gives of an inline is the text of its kind, with the marks filled.
func modelInlines(l []api.Inline) string {
	forms := map[int]string{api.Plain: "TEXT", api.Code: "<code>TEXT</code>", api.Em: "<em>KIDS</em>", api.Strong: "<strong>KIDS</strong>", api.Link: `<a href="DEST">KIDS</a>`, api.Soft: "\n"}
	texts := make([]string, len(l))
	for i, x := range l {
		dest := "#"
		if link.Safe(x.Dest) {
			dest = esc.Html(x.Dest)
		}
		texts[i] = strings.NewReplacer("TEXT", esc.Html(x.Text), "KIDS", modelInlines(x.Kids), "DEST", dest).Replace(forms[x.Kind])
	}
	return strings.Join(texts, "")
}

// modelBlock does the same of blocks.
func modelBlock(b api.Block) string {
	forms := map[int]string{api.Doc: "KIDS", api.Quote: "<blockquote>\nKIDS</blockquote>\n", api.List: "<ul>\nKIDS</ul>\n", api.Item: "<li>\nKIDS</li>\n", api.Para: "<p>INLINES</p>\n", api.Heading: "<hLEVEL>INLINES</hLEVEL>\n", api.Break: "<hr />\n", api.Fence: "<pre><code>TEXT</code></pre>\n"}
	kids := ""
	for _, kid := range b.Kids {
		kids += modelBlock(kid)
	}
	level := "1"
	for n := 2; n <= 6 && n <= b.Level; n++ {
		level = strconv.Itoa(n)
	}
	return strings.NewReplacer("TEXT", esc.Html(b.Text), "KIDS", kids, "INLINES", modelInlines(inline.Parse(b.Text)), "LEVEL", level).Replace(forms[b.Kind])
}

// modelBalanced takes tags side by side that open and close away, till there are none of them: nothing must be left.
func modelBalanced(s string) bool {
	var tags []string
	for at := 0; at < len(s); at++ {
		if s[at] != '<' {
			continue
		}
		end := at
		for end < len(s) && s[end] != '>' {
			end++
		}
		if end == len(s) {
			return false
		}
		if s[end-1] != '/' {
			tags = append(tags, strings.SplitN(s[at+1:end], " ", 2)[0])
		}
		at = end
	}
	for i := 1; i < len(tags); i++ {
		if tags[i] == "/"+tags[i-1] && !strings.HasPrefix(tags[i-1], "/") {
			tags = slices.Delete(tags, i-1, i+1)
			i = 0
		}
	}
	return len(tags) == 0
}

// every hands check each text of up to most of the pieces.
func every(t *testing.T, most int, pieces []string, check func(t *testing.T, s string)) {
	t.Helper()
	for n := range most + 1 {
		all := 1
		for range n {
			all *= len(pieces)
		}
		for number := range all {
			var text strings.Builder
			for range n {
				text.WriteString(pieces[number%len(pieces)])
				number /= len(pieces)
			}
			check(t, text.String())
			if t.Failed() {
				return
			}
		}
	}
}

// random gives texts of up to most of the pieces.
func random(r *rand.Rand, most int, pieces []string) string {
	var text strings.Builder
	for range r.Intn(most + 1) {
		text.WriteString(pieces[r.Intn(len(pieces))])
	}
	return text.String()
}

func checkBalanced(t *testing.T, s string) {
	t.Helper()
	if got, want := Balanced(s), modelBalanced(s); got != want {
		t.Errorf("P13.1: Balanced(%q) = %v, want %v", s, got, want)
	}
}

func TestBalancedEveryShortText(t *testing.T) {
	every(t, 7, []string{"<", ">", "/", " ", "a", "b"}, checkBalanced)
	every(t, 6, []string{"<a>", "</a>", "<b c>", "</b>", "<a/>", "<", "x>"}, checkBalanced)
	every(t, 5, []string{"<", "</", "/>", " />", ">", "a", "\n", "\xff", "\""}, checkBalanced)
	every(t, 10, []string{"<a>", "</a>", "<b>"}, checkBalanced)
}

func TestBalancedRandomTexts(t *testing.T) {
	r := rand.New(rand.NewSource(13))
	for range 20000 {
		checkBalanced(t, random(r, 30, []string{"<", ">", "/", " ", "a", "b", "<a>", "</a>", "<b ", "</b>", "<hr />", "\xff", "\n"}))
		checkBalanced(t, wholeTags(r, 6))
		// The same, with a place that may be wrong.
		s := wholeTags(r, 6)
		at := r.Intn(len(s) + 1)
		checkBalanced(t, s[:at]+random(r, 1, []string{"<a>", "</a>", "<", ">", "/", " "})+s[min(at+r.Intn(2), len(s)):])
	}
}

// wholeTags gives a text whose tags are balanced.
func wholeTags(r *rand.Rand, deep int) string {
	s := ""
	for range r.Intn(4) {
		name := []string{"a", "b", "em", "", "A"}[r.Intn(5)]
		switch {
		case deep == 0 || r.Intn(3) == 0:
			s += "x"
		case r.Intn(4) == 0:
			s += "<" + name + " />"
		default:
			s += "<" + name + " y>" + wholeTags(r, deep-1) + "</" + name + " >"
		}
	}
	return s
}

var (
	tags  = regexp.MustCompile(`<[^>]*>`)
	hrefs = regexp.MustCompile(`<a href="([^"]*)">`)
	gaps  = strings.NewReplacer(" ", "", "\n", "")
)

// shown gives what a reader of a page sees, without blanks and ends of lines.
func shown(page string) string {
	return gaps.Replace(unescape.UnescapeString(tags.ReplaceAllString(page, "")))
}

// said gives what b says, in the same way.
func said(b api.Block) string {
	text := ""
	switch b.Kind {
	case api.Para, api.Heading:
		text = inline.Text(inline.Parse(b.Text))
	case api.Fence:
		text = b.Text
	}
	for _, kid := range b.Kids {
		text += said(kid)
	}
	return gaps.Replace(text)
}

// checkPage holds the Page of s against the model, and against what all pages have in common.
func checkPage(t *testing.T, s string) {
	t.Helper()
	b := block.Parse([]byte(s))
	got := Page([]byte(s))
	if want := modelBlock(b); got != want {
		t.Errorf("P13.1: Page(%q):\n got %q\nwant %q", s, got, want)
	}
	if !Balanced(got) || !modelBalanced(got) {
		t.Errorf("P13.2: Page(%q) is not balanced: %q", s, got)
	}
	if shown(got) != said(b) {
		t.Errorf("W4: Page(%q) shows %q, but it says %q", s, shown(got), said(b))
	}
	for _, href := range hrefs.FindAllStringSubmatch(got, -1) {
		if href[1] != "#" && !link.Safe(unescape.UnescapeString(href[1])) {
			t.Errorf("W4: Page(%q) leads to %q", s, href[1])
		}
	}
}

func TestPageEveryShortText(t *testing.T) {
	every(t, 4, []string{"a", "\n", " ", "> ", "- ", "+ ", "# ", "***\n", "~~~", "`", "*", "<", "&", "\xff"}, checkPage)
	every(t, 4, []string{"[", "](", "](b)", ")", "<ab:", "<data:", ">", "\"", "/", "*", "`", "\\", "\n"}, checkPage)
	every(t, 6, []string{"> ", "- ", "  ", "a", "\n"}, checkPage)
	every(t, 6, []string{"*", "**", "a", " ", "`", "\n"}, checkPage)
}

func TestPageRandomTexts(t *testing.T) {
	r := rand.New(rand.NewSource(131))
	sets := [][]string{
		{"a", "b", "\n", "\n", " ", "> ", "- ", "* ", "+ ", "# ", "## ", "~~~", "```", "---", "\t", "\r"},
		{"a", "\n", "*", "**", "_", "`", "``", "[", "](", "](b)", ")", "<ab:c>", "<javascript:d>", "](#)", "\\", "<", ">", "&", "\"", "\xff", "\x00", "\u00e9"},
		{"<p>", "</p>", "<hr />", "<a href=\"", "\">", "`", "\n", "[", "](", ")", "/>", "&lt;"},
	}
	for range 8000 {
		checkPage(t, random(r, 60, slices.Concat(sets[r.Intn(3)], sets[r.Intn(3)])))
		b := make([]byte, r.Intn(60))
		for i := range b {
			b[i] = byte(r.Intn(256))
		}
		checkPage(t, string(b))
	}
}

var words = []string{"a", "<", ">", "&", "\"", "#b", "data:", "ja va Script:c", "\xff", "\x00", "\n", "*d*", "`e`", "[f](g)", "\u00e9", ""}

// randomInlines gives a row whose inlines may have any kind, and fields that mean nothing.
func randomInlines(r *rand.Rand, deep int) []api.Inline {
	var l []api.Inline
	for range r.Intn(4) * min(deep, 1) {
		l = append(l, api.Inline{Kind: r.Intn(8) - 1, Text: random(r, 3, words), Dest: random(r, 2, words), Kids: randomInlines(r, deep-1)})
	}
	return l
}

// randomBlock is the same of blocks.
func randomBlock(r *rand.Rand, deep int) api.Block {
	b := api.Block{Kind: r.Intn(10) - 1, Level: r.Intn(12) - 3, Text: random(r, 4, words), Info: "info", Line: r.Intn(3)}
	for range r.Intn(4) * min(deep, 1) {
		b.Kids = append(b.Kids, randomBlock(r, deep-1))
	}
	return b
}

func TestRandomTrees(t *testing.T) {
	r := rand.New(rand.NewSource(132))
	for range 8000 {
		l := randomInlines(r, 5)
		if got, want := Inlines(l), modelInlines(l); got != want {
			t.Fatalf("P13.1: Inlines(%+v):\n got %q\nwant %q", l, got, want)
		}
		b := randomBlock(r, 5)
		got := Block(b)
		if want := modelBlock(b); got != want {
			t.Fatalf("P13.1: Block(%+v):\n got %q\nwant %q", b, got, want)
		}
		if !Balanced(got) || !Balanced(Inlines(l)) {
			t.Fatalf("P13.2: Block(%+v), or Inlines(%+v), is not balanced", b, l)
		}
	}
}
