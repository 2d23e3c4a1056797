package html

import (
	"math"
	"strings"
	"testing"

	"selvedge/api"
	"selvedge/block"
)

func TestInlines(t *testing.T) {
	kid := []api.Inline{{Text: "kid"}}
	for _, c := range []struct {
		name string
		list []api.Inline
		want string
	}{
		{"nothing", nil, ""},
		{"an empty list", []api.Inline{}, ""},
		{"Plain", []api.Inline{{Kind: api.Plain, Text: "a b"}}, "a b"},
		{"Plain of signs", []api.Inline{{Text: "<a href=\"b\"> & 'c'"}}, "&lt;a href=&quot;b&quot;&gt; &amp; 'c'"},
		{"Plain that is an entity", []api.Inline{{Text: "&lt;"}}, "&amp;lt;"},
		{"Plain of what stress and code begin with", []api.Inline{{Text: "*a* `b` [c](d) \\* \n"}}, "*a* `b` [c](d) \\* \n"},
		{"Plain without a Text", []api.Inline{{}}, ""},
		{"bytes of no rune stay", []api.Inline{{Text: "\xff<\x00"}, {Kind: api.Code, Text: "\xe2"}}, "\xff&lt;\x00<code>\xe2</code>"},
		{"Code", []api.Inline{{Kind: api.Code, Text: "a"}}, "<code>a</code>"},
		{"Code of signs", []api.Inline{{Kind: api.Code, Text: "<\"&\">"}}, "<code>&lt;&quot;&amp;&quot;&gt;</code>"},
		{"Code without a Text", []api.Inline{{Kind: api.Code}}, "<code></code>"},
		{"Em", []api.Inline{{Kind: api.Em, Kids: kid}}, "<em>kid</em>"},
		{"Em without Kids", []api.Inline{{Kind: api.Em}}, "<em></em>"},
		{"Strong", []api.Inline{{Kind: api.Strong, Kids: kid}}, "<strong>kid</strong>"},
		{"Strong without Kids", []api.Inline{{Kind: api.Strong, Kids: []api.Inline{}}}, "<strong></strong>"},
		{"Link", []api.Inline{{Kind: api.Link, Dest: "a", Kids: kid}}, `<a href="a">kid</a>`},
		{"Link without a Dest", []api.Inline{{Kind: api.Link, Kids: kid}}, `<a href="">kid</a>`},
		{"Link without Kids", []api.Inline{{Kind: api.Link, Dest: "a"}}, `<a href="a"></a>`},
		{"Link of signs", []api.Inline{{Kind: api.Link, Dest: "a\"b<c>&d", Kids: kid}}, `<a href="a&quot;b&lt;c&gt;&amp;d">kid</a>`},
		{"Link to a place of its page", []api.Inline{{Kind: api.Link, Dest: "#a", Kids: kid}}, `<a href="#">kid</a>`},
		{"Link to a program", []api.Inline{{Kind: api.Link, Dest: " Java\tScript:\"a\"", Kids: kid}}, `<a href="#">kid</a>`},
		{"Link to data", []api.Inline{{Kind: api.Link, Dest: "data:<", Kids: kid}}, `<a href="#">kid</a>`},
		{"Link to what only looks so", []api.Inline{{Kind: api.Link, Dest: "data", Kids: kid}}, `<a href="data">kid</a>`},
		{"Link whose Dest has # behind its beginning", []api.Inline{{Kind: api.Link, Dest: "a#b", Kids: kid}}, `<a href="a#b">kid</a>`},
		{"Link in a Link", []api.Inline{{Kind: api.Link, Dest: "a", Kids: []api.Inline{{Kind: api.Link, Dest: "#", Kids: kid}}}}, `<a href="a"><a href="#">kid</a></a>`},
		{"Soft", []api.Inline{{Kind: api.Soft}}, "\n"},
		{"a row", []api.Inline{{Text: "a"}, {Kind: api.Soft}, {Kind: api.Soft}, {Text: "b"}, {Text: "c"}, {Kind: api.Code, Text: "d"}}, "a\n\nbc<code>d</code>"},
		{"rows within rows", []api.Inline{{Kind: api.Em, Kids: []api.Inline{{Text: "a"}, {Kind: api.Strong, Kids: []api.Inline{{Kind: api.Link, Dest: "b", Kids: kid}, {Text: "c"}}}, {Kind: api.Soft}}}, {Text: "d"}}, "<em>a<strong><a href=\"b\">kid</a>c</strong>\n</em>d"},
		{"Texts, Dests and Kids of those that have none", []api.Inline{{Text: "a", Dest: "x", Kids: kid}, {Kind: api.Code, Text: "b", Dest: "x", Kids: kid}, {Kind: api.Em, Text: "x", Dest: "x"}, {Kind: api.Strong, Text: "x", Dest: "x"}, {Kind: api.Link, Text: "x", Dest: "c"}, {Kind: api.Soft, Text: "x", Dest: "x", Kids: kid}}, "a<code>b</code><em></em><strong></strong><a href=\"c\"></a>\n"},
		{"other kinds", []api.Inline{{Kind: 6, Text: "x", Dest: "x", Kids: kid}, {Kind: -1, Text: "x", Kids: kid}, {Kind: math.MaxInt, Text: "x"}, {Kind: math.MinInt, Text: "x"}, {Text: "a"}}, "a"},
	} {
		if got := Inlines(c.list); got != c.want {
			t.Errorf("P13.1: %s: Inlines = %q, want %q", c.name, got, c.want)
		}
	}
}

func TestBlock(t *testing.T) {
	kids := []api.Block{{Kind: api.Break}}
	for _, c := range []struct {
		name string
		in   api.Block
		want string
	}{
		{"nothing", api.Block{}, ""},
		{"Doc", api.Block{Kind: api.Doc, Kids: []api.Block{{Kind: api.Break}, {Kind: api.Para, Text: "a"}}}, "<hr />\n<p>a</p>\n"},
		{"Doc in a Doc", api.Block{Kind: api.Doc, Text: "x", Kids: []api.Block{{Kind: api.Doc, Kids: kids}, {Kind: api.Doc}}}, "<hr />\n"},
		{"Quote", api.Block{Kind: api.Quote, Kids: kids}, "<blockquote>\n<hr />\n</blockquote>\n"},
		{"Quote without Kids", api.Block{Kind: api.Quote}, "<blockquote>\n</blockquote>\n"},
		{"List", api.Block{Kind: api.List, Kids: kids}, "<ul>\n<hr />\n</ul>\n"},
		{"List without Kids", api.Block{Kind: api.List, Kids: []api.Block{}}, "<ul>\n</ul>\n"},
		{"Item", api.Block{Kind: api.Item, Kids: kids}, "<li>\n<hr />\n</li>\n"},
		{"Item without Kids", api.Block{Kind: api.Item}, "<li>\n</li>\n"},
		{"containers in one another", api.Block{Kind: api.List, Kids: []api.Block{{Kind: api.Item, Kids: []api.Block{{Kind: api.Para, Text: "a"}, {Kind: api.Quote, Kids: kids}}}, {Kind: api.Item}}}, "<ul>\n<li>\n<p>a</p>\n<blockquote>\n<hr />\n</blockquote>\n</li>\n<li>\n</li>\n</ul>\n"},
		{"Para", api.Block{Kind: api.Para, Text: "a"}, "<p>a</p>\n"},
		{"Para of lines", api.Block{Kind: api.Para, Text: "a\nb"}, "<p>a\nb</p>\n"},
		{"Para of inlines", api.Block{Kind: api.Para, Text: "*a* **b** `c` [d](e) <fg:h> \\* <"}, "<p><em>a</em> <strong>b</strong> <code>c</code> <a href=\"e\">d</a> <a href=\"fg:h\">fg:h</a> * &lt;</p>\n"},
		{"Para without a Text", api.Block{Kind: api.Para}, "<p></p>\n"},
		{"Para of what would begin blocks", api.Block{Kind: api.Para, Text: "# a\n- b\n> c"}, "<p># a\n- b\n&gt; c</p>\n"},
		{"Heading of Level 1", api.Block{Kind: api.Heading, Level: 1, Text: "a"}, "<h1>a</h1>\n"},
		{"Heading of Level 2", api.Block{Kind: api.Heading, Level: 2, Text: "a"}, "<h2>a</h2>\n"},
		{"Heading of Level 3", api.Block{Kind: api.Heading, Level: 3, Text: "a"}, "<h3>a</h3>\n"},
		{"Heading of Level 4", api.Block{Kind: api.Heading, Level: 4, Text: "a"}, "<h4>a</h4>\n"},
		{"Heading of Level 5", api.Block{Kind: api.Heading, Level: 5, Text: "a"}, "<h5>a</h5>\n"},
		{"Heading of Level 6", api.Block{Kind: api.Heading, Level: 6, Text: "a"}, "<h6>a</h6>\n"},
		{"Heading of Level 7", api.Block{Kind: api.Heading, Level: 7, Text: "a"}, "<h6>a</h6>\n"},
		{"Heading of Level 0", api.Block{Kind: api.Heading, Text: "a"}, "<h1>a</h1>\n"},
		{"Heading below 0", api.Block{Kind: api.Heading, Level: -3, Text: "a"}, "<h1>a</h1>\n"},
		{"Heading of the greatest Level", api.Block{Kind: api.Heading, Level: math.MaxInt, Text: "a"}, "<h6>a</h6>\n"},
		{"Heading of the least Level", api.Block{Kind: api.Heading, Level: math.MinInt, Text: "a"}, "<h1>a</h1>\n"},
		{"Heading of inlines", api.Block{Kind: api.Heading, Level: 2, Text: "`a` *b*\n<"}, "<h2><code>a</code> <em>b</em>\n&lt;</h2>\n"},
		{"Heading without a Text", api.Block{Kind: api.Heading, Level: 2}, "<h2></h2>\n"},
		{"Break", api.Block{Kind: api.Break}, "<hr />\n"},
		{"Fence", api.Block{Kind: api.Fence, Text: "a\nb\n"}, "<pre><code>a\nb\n</code></pre>\n"},
		{"Fence of signs", api.Block{Kind: api.Fence, Text: "*<\"&\">*\n\\*"}, "<pre><code>*&lt;&quot;&amp;&quot;&gt;*\n\\*</code></pre>\n"},
		{"Fence without lines", api.Block{Kind: api.Fence, Info: "go"}, "<pre><code></code></pre>\n"},
		{"bytes of no rune stay in a Fence", api.Block{Kind: api.Fence, Text: "\xff\x00"}, "<pre><code>\xff\x00</code></pre>\n"},
		{"bytes of no rune in a Para", api.Block{Kind: api.Para, Text: "\xff\x00`\xff`"}, "<p>\ufffd\x00<code>\xff</code></p>\n"},
		{"a leaf has no Kids, a Break no Text", api.Block{Kind: api.Doc, Kids: []api.Block{{Kind: api.Para, Kids: kids}, {Kind: api.Heading, Kids: kids}, {Kind: api.Fence, Kids: kids}, {Kind: api.Break, Text: "x", Kids: kids}}}, "<p></p>\n<h1></h1>\n<pre><code></code></pre>\n<hr />\n"},
		{"containers have no Texts, no Infos, no Lines", api.Block{Kind: api.Quote, Text: "x", Info: "x", Level: 2, Line: 3, Kids: []api.Block{{Kind: api.List, Text: "x", Kids: []api.Block{{Kind: api.Item, Text: "x", Info: "x"}}}}}, "<blockquote>\n<ul>\n<li>\n</li>\n</ul>\n</blockquote>\n"},
		{"kinds where they don't belong", api.Block{Kind: api.List, Kids: []api.Block{{Kind: api.Para, Text: "a"}, {Kind: api.List}}}, "<ul>\n<p>a</p>\n<ul>\n</ul>\n</ul>\n"},
		{"another kind", api.Block{Kind: 8, Text: "x", Kids: kids}, ""},
		{"a kind below 0", api.Block{Kind: -1, Text: "x", Kids: kids}, ""},
		{"kinds far off, within", api.Block{Kind: api.Item, Kids: []api.Block{{Kind: math.MaxInt, Kids: kids}, {Kind: math.MinInt, Kids: kids}, {Kind: api.Break}}}, "<li>\n<hr />\n</li>\n"},
	} {
		if got := Block(c.in); got != c.want {
			t.Errorf("P13.1: %s: Block = %q, want %q", c.name, got, c.want)
		}
	}
}

func TestPage(t *testing.T) {
	for _, c := range []struct{ name, in, want string }{
		{"nothing", "", ""},
		{"empty lines", "\n \n\t\n", ""},
		{"a letter", "a", "<p>a</p>\n"},
		{"lines of a Para", " a \r\nb\n", "<p>a\nb</p>\n"},
		{"Paras", "a\n\nb", "<p>a</p>\n<p>b</p>\n"},
		{"a Heading and a Para", "## a `b` ##\nc", "<h2>a <code>b</code></h2>\n<p>c</p>\n"},
		{"a Break", "a\n***\nb", "<p>a</p>\n<hr />\n<p>b</p>\n"},
		{"a Quote", "> a\n>\n> b", "<blockquote>\n<p>a</p>\n<p>b</p>\n</blockquote>\n"},
		{"Lists", "- a\n- b\n\n+ c", "<ul>\n<li>\n<p>a</p>\n</li>\n<li>\n<p>b</p>\n</li>\n</ul>\n<ul>\n<li>\n<p>c</p>\n</li>\n</ul>\n"},
		{"a Fence in an Item", "- ~~~ go\n  <a>\n\n  ~~~", "<ul>\n<li>\n<pre><code>&lt;a&gt;\n\n</code></pre>\n</li>\n</ul>\n"},
		{"a Fence without an end", "```\n*a*", "<pre><code>*a*\n</code></pre>\n"},
		{"tags in a text", "<p>&amp;</p><hr />", "<p>&lt;p&gt;&amp;amp;&lt;/p&gt;&lt;hr /&gt;</p>\n"},
		{"tags in code", "`</code>`", "<p><code>&lt;/code&gt;</code></p>\n"},
		{"tags in an address", "[a](\"><b>) [c](/)", "<p><a href=\"&quot;&gt;&lt;b&gt;\">a</a> <a href=\"/\">c</a></p>\n"},
		{"addresses that lead on no page", "[a](javascript:b) <javascript:b> <data:b> [c](#d)", "<p><a href=\"#\">a</a> <a href=\"#\">javascript:b</a> <a href=\"#\">data:b</a> <a href=\"#\">c</a></p>\n"},
		{"bytes of no rune", "\xff\n\n~~~\n\xe2", "<p>\ufffd</p>\n<pre><code>\ufffd\n</code></pre>\n"},
		{"bytes beyond the most", strings.Repeat("a", api.MaxBytes-1) + "b*c*", "<p>" + strings.Repeat("a", api.MaxBytes-1) + "b</p>\n"},
	} {
		if got := Page([]byte(c.in)); got != c.want {
			t.Errorf("P13.1: %s: Page(%q) = %q, want %q", c.name, c.in, got, c.want)
		}
		if got := Block(block.Parse([]byte(c.in))); got != c.want {
			t.Errorf("P13.1: %s: Block(block.Parse(%q)) = %q, want %q", c.name, c.in, got, c.want)
		}
	}
	if got := Page(nil); got != "" {
		t.Errorf("R4: Page(nil) = %q", got)
	}
}

func TestBalanced(t *testing.T) {
	for _, c := range []struct {
		in   string
		want bool
	}{
		{"", true},
		{"a", true},
		{"&lt;p&gt;", true},
		{"a > b >", true},
		{"<p></p>", true},
		{"a<p>b</p>c", true},
		{"<p>", false},
		{"</p>", false},
		{"</p><p>", false},
		{"<p><p></p>", false},
		{"<p></p></p>", false},
		{"<p></p><b></b>", true},
		{"<p></p><b>", false},
		{"<a><b></b></a>", true},
		{"<a><b></a></b>", false},
		{"<a><a></a></a>", true},
		{"<a><b></b><c><d></d></c></a>", true},
		{"<a><b></b></c></a>", false},
		{"<a></b>", false},
		{"<ab></a>", false},
		{"<a></ab>", false},
		{"<a></A>", false},
		{"<hr />", true},
		{"<hr/>", true},
		{"<hr / >", false},
		{"<hr>", false},
		{"<p><hr /></p>", true},
		{"<p><hr />", false},
		{"<p/></p>", false},
		{"<p></p/>", false},
		{"</p/>", true},
		{"</p />", true},
		{"<p /x></p>", true},
		{"<a href=\"b\">c</a>", true},
		{"<a href=\"b/\">c</a>", true},
		{"<a href=b/>c", true},
		{"<a b></a c>", true},
		{"<a  ></a>", true},
		{"<a\tb></a>", false},
		{"<a\tb></a\tb>", true},
		{"<a\nb></a>", false},
		{"<a\u00a0b></a>", false},
		{"<>", false},
		{"<></>", false},
		{"</>", true},
		{"<//>", true},
		{"< ></ >", true},
		{"< a></ b>", true},
		{"<></ >", true},
		{"< a></a>", false},
		{"<a></ a>", false},
		{"<//a></a>", false},
		{"</a></a>", false},
		{"<a><//a>", false},
		{"<", false},
		{"a<", false},
		{"<a", false},
		{"<p></p", false},
		{"<p></p><", false},
		{"<hr />< ", false},
		{"><", false},
		{"<a<b></a<b>", true},
		{"<a<b></b>", false},
		{"<a<></a<>", true},
		{"<p<hr />", true},
		{"<\xff></\xff>", true},
		{"<\xff></\xfe>", false},
		{"<a \xff></a>", true},
		{"<\x00></\x00>", true},
		{"<\x00></>", false},
		{"<\u00e9></\u00e9>", true},
		{"<!-- a -->", false},
		{"<p>\n<em>a</em>\n</p>\n", true},
	} {
		if got := Balanced(c.in); got != c.want {
			t.Errorf("P13.1: Balanced(%q) = %v", c.in, got)
		}
	}
}
