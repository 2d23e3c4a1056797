package inline

import (
	"strconv"
	"strings"
	"testing"
	"unicode/utf8"

	"selvedge/api"
)

// tell tells inlines in words.
func tell(l []api.Inline) string {
	words := make([]string, len(l))
	for i, x := range l {
		switch x.Kind {
		case api.Plain:
			words[i] = strconv.Quote(x.Text)
		case api.Code:
			words[i] = "code" + strconv.Quote(x.Text)
		case api.Em:
			words[i] = "em(" + tell(x.Kids) + ")"
		case api.Strong:
			words[i] = "strong(" + tell(x.Kids) + ")"
		case api.Link:
			words[i] = "link" + strconv.Quote(x.Dest) + "(" + tell(x.Kids) + ")"
		case api.Soft:
			words[i] = "soft"
		default:
			words[i] = "kind" + strconv.Itoa(x.Kind)
		}
	}
	return strings.Join(words, " ")
}

// checkShape holds the inlines l of s against what holds of all.
func checkShape(t *testing.T, s string, l []api.Inline, linked bool) {
	t.Helper()
	for i, x := range l {
		plain, kids := x.Kind == api.Plain, x.Kind == api.Em || x.Kind == api.Strong || x.Kind == api.Link
		switch {
		case plain && (x.Text == "" || !utf8.ValidString(x.Text)):
			t.Errorf("P12.1: Parse(%q): a Plain %q", s, x.Text)
		case plain && i > 0 && l[i-1].Kind == api.Plain:
			t.Errorf("P12.1: Parse(%q): two Plains side by side", s)
		case x.Kind == api.Link && linked:
			t.Errorf("P12.1: Parse(%q): a Link within a Link", s)
		case !plain && x.Kind != api.Code && x.Text != "", x.Kind != api.Link && x.Dest != "", !kids && len(x.Kids) > 0:
			t.Errorf("R3: Parse(%q): fields of another kind: %+v", s, x)
		case x.Kind < api.Plain || x.Kind > api.Soft:
			t.Errorf("P12.1: Parse(%q): kind %d", s, x.Kind)
		}
		checkShape(t, s, x.Kids, linked || x.Kind == api.Link)
	}
}

// cases are texts, what Parse gives of them, and what Text gives of that.
type cases []struct{ name, in, want, text string }

func (l cases) check(t *testing.T) {
	t.Helper()
	for _, c := range l {
		got := Parse(c.in)
		if tell(got) != c.want {
			t.Errorf("P12.1: %s: Parse(%q) = %s, want %s", c.name, c.in, tell(got), c.want)
		}
		if text := Text(got); text != c.text {
			t.Errorf("P12.1: %s: Text(Parse(%q)) = %q, want %q", c.name, c.in, text, c.text)
		}
		checkShape(t, c.in, got, false)
	}
}

func TestParsePlain(t *testing.T) {
	cases{
		{"nothing", ``, ``, ``},
		{"a letter", `a`, `"a"`, `a`},
		{"words", `  ab cd `, `"  ab cd "`, `  ab cd `},
		{"an escaped sign", `\a\*\]\\`, `"\\a*]\\"`, `\a*]\`},
		{"a \\ last", `a\`, `"a\\"`, `a\`},
		{"a \\ ahead of a longer rune", "\\\u00a1\\\u2014", "\"\\\\\u00a1\\\\\u2014\"", "\\\u00a1\\\u2014"},
		{"signs that begin nothing", `] ( ) ! > ~ # & "`, `"] ( ) ! > ~ # & \""`, `] ( ) ! > ~ # & "`},
		{"signs that might, each alone", "` < [ * _", "\"` < [ * _\"", "` < [ * _"},
		{"bytes of no rune", "\xffa\xe2\x80", "\"\ufffda\ufffd\ufffd\"", "\ufffda\ufffd\ufffd"},
		{"a \\ ahead of a byte of no rune", "\\\xff", "\"\\\\\ufffd\"", "\\\ufffd"},
		{"longer runes", "\u00e9\u20ac\U0001f600", "\"\u00e9\u20ac\U0001f600\"", "\u00e9\u20ac\U0001f600"},
		{"byte 0", "a\x00b", `"a\x00b"`, "a\x00b"},
		{"an end of a line", "a\nb", `"a" soft "b"`, "a b"},
		{"ends of lines alone", "\n\n", `soft soft`, "  "},
		{"blanks around an end of a line", "a \n b", `"a " soft " b"`, "a   b"},
		{"bytes 13 and 10", "a\r\nb\r", `"a\r" soft "b\r"`, "a\r b\r"},
		{"a \\ ahead of an end of a line", "a\\\nb", `"a\\" soft "b"`, `a\ b`},
		{"other blanks", "a\t\v\u2028b", `"a\t\v\u2028b"`, "a\t\v\u2028b"},
	}.check(t)
}

func TestParseCode(t *testing.T) {
	cases{
		{"code", "a`b`c", "\"a\" code\"b\" \"c\"", "abc"},
		{"code alone", "`a`", "code\"a\"", "a"},
		{"a run of two within", "`a``b`", "code\"a``b\"", "a``b"},
		{"code, a blank and code", "`a` `b`", "code\"a\" \" \" code\"b\"", "a b"},
		{"of two", "``a`b``", "code\"a`b\"", "a`b"},
		{"is Cleaned", "` a\nb `", "code\"a b\"", "a b"},
		{"a blank", "` `", "code\" \"", " "},
		{"one is not closed", "`a", "\"`a\"", "`a"},
		{"two are not closed by one", "``a`", "\"``a`\"", "``a`"},
		{"the whole run is plain, then code", "```a``b``", "\"```a\" code\"b\"", "```ab"},
		{"the whole run is plain: its last ones begin none", "``a`b", "\"``a`b\"", "``a`b"},
		{"escaped", "\\`a`", "\"`a`\"", "`a`"},
		{"behind an escaped one", "\\``a`", "\"``a`\"", "``a`"},
		{"a run behind an escaped one", "\\```a``", "\"```a``\"", "```a``"},
		{"behind an escaped one, another", "\\``a` `b`", "\"``a\" code\" \" \"b`\"", "``a b`"},
		{"behind an escaped \\", "\\\\`a`", "\"\\\\\" code\"a\"", "\\a"},
		{"a \\ within says nothing", "`a\\`b", "code\"a\\\\\" \"b\"", "a\\b"},
		{"signs within", "`*[a](b)<ab:c>_`", "code\"*[a](b)<ab:c>_\"", "*[a](b)<ab:c>_"},
		{"bytes of no rune stay", "`\xff`", "code\"\\xff\"", "\xff"},
		{"it goes ahead of a run", "*a `b* c`", "\"*a \" code\"b* c\"", "*a b* c"},
		{"it goes ahead of a link", "[a `b](c)`", "\"[a \" code\"b](c)\"", "[a b](c)"},
		{"in stress", "*`a`*", "em(code\"a\")", "a"},
	}.check(t)
}

func TestParseAuto(t *testing.T) {
	cases{
		{"an Auto", "a <ab:c> d", `"a " link"ab:c"("ab:c") " d"`, "a ab:c d"},
		{"nothing behind the :", "<ab:>", `link"ab:"("ab:")`, "ab:"},
		{"its signs mean nothing", "<ab:*c*_d_`e`[f](g)\\*\\a>", "link\"ab:*c*_d_`e`[f](g)\\\\*\\\\a\"(\"ab:*c*_d_`e`[f](g)\\\\*\\\\a\")", "ab:*c*_d_`e`[f](g)\\*\\a"},
		{"bytes of no rune", "<ab:\xff\xe2\x80>", "link\"ab:\\xff\\xe2\\x80\"(\"ab:\ufffd\ufffd\ufffd\")", "ab:\ufffd\ufffd\ufffd"},
		{"longer runes", "<ab:\u00e9\u20ac>", "link\"ab:\u00e9\u20ac\"(\"ab:\u00e9\u20ac\")", "ab:\u00e9\u20ac"},
		{"side by side", "<ab:><cd:>", `link"ab:"("ab:") link"cd:"("cd:")`, "ab:cd:"},
		{"no scheme", "<ab> <a:b>", `"<ab> <a:b>"`, "<ab> <a:b>"},
		{"escaped", `\<ab:c>`, `"<ab:c>"`, "<ab:c>"},
		{"a second <", "<<ab:c>", `"<" link"ab:c"("ab:c")`, "<ab:c"},
		{"not closed: what is in it counts", "<ab:*c*", `"<ab:" em("c")`, "<ab:c"},
		{"it goes ahead of code", "<ab:`> `", "link\"ab:`\"(\"ab:`\") \" `\"", "ab:` `"},
		{"it goes ahead of a run", "*<ab:*>*", `em(link"ab:*"("ab:*"))`, "ab:*"},
		{"within brackets that are no link", "[<ab:c>]", `"[" link"ab:c"("ab:c") "]"`, "[ab:c]"},
	}.check(t)
}

func TestParseLink(t *testing.T) {
	cases{
		{"a link", "a [b](c) d", `"a " link"c"("b") " d"`, "a b d"},
		{"no text", "[](a)", `link"a"()`, ""},
		{"no destination", "[a]()", `link""("a")`, "a"},
		{"nothing at all", "[]()", `link""()`, ""},
		{"side by side", "[a](b)[c](d)", `link"b"("a") link"d"("c")`, "ac"},
		{"escaped signs in both", `[\]\*](\)\a)`, `link")\\a"("]*")`, "]*"},
		{"bytes of no rune in both", "[\xff](\xff)", "link\"\ufffd\"(\"\ufffd\")", "\ufffd"},
		{"code in it", "[`]`](a)", "link\"a\"(code\"]\")", "]"},
		{"an end of a line in it", "[a\nb](c)", `link"c"("a" soft "b")`, "a b"},
		{"a blank ahead of the (", "[a] (b)", `"[a] (b)"`, "[a] (b)"},
		{"an end of a line ahead of the (", "[a]\n(b)", `"[a]" soft "(b)"`, "[a] (b)"},
		{"a letter ahead of the (", "[a]b(c)", `"[a]b(c)"`, "[a]b(c)"},
		{"an escaped (", `[a]\(b)`, `"[a](b)"`, "[a](b)"},
		{"an escaped [", `\[a](b)`, `"[a](b)"`, "[a](b)"},
		{"an escaped ]", `[a\](b)`, `"[a](b)"`, "[a](b)"},
		{"an escaped )", `[a](b\)`, `"[a](b)"`, "[a](b)"},
		{"no )", "[a](b", `"[a](b"`, "[a](b"},
		{"a blank in the destination", "[a](b c)", `"[a](b c)"`, "[a](b c)"},
		{"a ( in the destination", "[a]((b))", `"[a]((b))"`, "[a]((b))"},
		{"no ]", "[a(b)", `"[a(b)"`, "[a(b)"},
		{"no [", "a](b)", `"a](b)"`, "a](b)"},
		{"brackets alone", "[a][b]", `"[a][b]"`, "[a][b]"},
		{"a ! ahead is plain", "![a](b)", `"!" link"b"("a")`, "!a"},
		{"signs in the destination mean nothing", "*[a](*`<ab:c>`_[)", "\"*\" link\"*`<ab:c>`_[\"(\"a\")", "*a"},

		{"one in another: the outer one is", "[a [b](c) d](e)", `link"e"("a [b](c) d")`, "a [b](c) d"},
		{"three in one another", "[[[a](b)](c)](d)", `link"d"("[[a](b)](c)")`, "[[a](b)](c)"},
		{"one in brackets", "[a [b](c) d]", `"[a " link"c"("b") " d]"`, "[a b d]"},
		{"one in brackets that have no destination", "[[a](b)](c d)", `"[" link"b"("a") "](c d)"`, "[a](c d)"},
		{"one behind a [ that is not closed", "[a [b](c)", `"[a " link"c"("b")`, "[a b"},
		{"several behind [ that are not closed", "[[a](b)[[c](d)", `"[" link"b"("a") "[" link"d"("c")`, "[a[c"},
		{"brackets in it", "[a[b]c](d)", `link"d"("a[b]c")`, "a[b]c"},
		{"an Auto in it is none", "[a <bc:d> e](f)", `link"f"("a <bc:d> e")`, "a <bc:d> e"},
		{"an Auto in it is none, but a ] there closes nothing", "[<ab:]>](c)", `link"c"("<ab:]>")`, "<ab:]>"},
		{"an Auto in it is none: its signs count", "[<ab:*c*`d`>](e)", "link\"e\"(\"<ab:\" em(\"c\") code\"d\" \">\")", "<ab:cd>"},
		{"an Auto in it is none: a \\ there counts", `[<ab:\*c\>>](d)`, `link"d"("<ab:*c>>")`, "<ab:*c>>"},
		{"an Auto in it is none, nor in stress in it", "[*<ab:c>*](d)", `link"d"(em("<ab:c>"))`, "<ab:c>"},
		{"a link in stress in it is none", "[*[a](b)*](c)", `link"c"(em("[a](b)"))`, "[a](b)"},
		{"code that only goes past its end", "[a`](b)", "link\"b\"(\"a`\")", "a`"},
		{"code that would end behind it", "[<ab:`>](c) `d", "link\"c\"(\"<ab:`>\") \" `d\"", "<ab:`> `d"},
		{"a ` ahead of it, and one in its destination", "[a](`) [b`](c)", "link\"`\"(\"a\") \" \" link\"c\"(\"b`\")", "a b`"},
		{"the same in a link", "[[a](`) [b`](c)", "link\"c\"(\"[a](\" code\") [b\")", "[a]() [b"},
		{"the same behind a [ that is not closed", "[[a](`)[b`[c](d)", "\"[\" link\"`\"(\"a\") \"[b`\" link\"d\"(\"c\")", "[a[b`c"},
		{"the same in brackets", "[[a](`) [b`] c](d)", "\"[\" link\"`\"(\"a\") \" [b`] c](d)\"", "[a [b`] c](d)"},
		{"an Auto that begins in a destination", "[[a](<bc:)[>[d](e)", `"[" link"<bc:"("a") "[>" link"e"("d")`, "[a[>d"},
		{"an Auto that begins in a destination, in a link", "[[a](<bc:)[>d](e)", `link"e"("[a](<bc:)[>d")`, "[a](<bc:)[>d"},
	}.check(t)
}

func TestParseStress(t *testing.T) {
	cases{
		{"one sign", "*a*", `em("a")`, "a"},
		{"two signs", "**a**", `strong("a")`, "a"},
		{"three signs: the two are nearest", "***a***", `em(strong("a"))`, "a"},
		{"four", "****a****", `strong(strong("a"))`, "a"},
		{"five", "*****a*****", `em(strong(strong("a")))`, "a"},
		{"the other sign", "_a_ __b__", `em("a") " " strong("b")`, "a b"},
		{"text around", "a *b* c", `"a " em("b") " c"`, "a b c"},
		{"within a word", "a*b*c a_b_c", `"a" em("b") "c a_b_c"`, "abc a_b_c"},
		{"blanks within", "* a *", `"* a *"`, "* a *"},
		{"a run alone", "**", `"**"`, "**"},
		{"signs of both sorts do not pair", "*a_ _b*", `em("a_ _b")`, "a_ _b"},
		{"none closes", "*a **b _c", `"*a **b _c"`, "*a **b _c"},
		{"none opens", "a* b** c_", `"a* b** c_"`, "a* b** c_"},
		{"over an end of a line", "*a\nb*", `em("a" soft "b")`, "a b"},
		{"escaped", "\\*a*", `"*a*"`, "*a*"},
		{"behind an escaped one no run begins", "\\**a*", `"**a*"`, "**a*"},
		{"behind an escaped one of the other sort a run begins", "\\_*a*", `"_" em("a")`, "_a"},
		{"an escaped one within", "*a\\*b*", `em("a*b")`, "a*b"},

		{"what is left ahead", "**a*", `"*" em("a")`, "*a"},
		{"what is left behind", "*a**", `em("a") "*"`, "a*"},
		{"what is left on both sides of what a run is for", "*a******b**", `em("a") "***" strong("b")`, "a***b"},
		{"what is left is one with the text ahead", "x ***a*", `"x **" em("a")`, "x **a"},
		{"what is left is one with the text behind", "*a*** x", `em("a") "** x"`, "a** x"},
		{"what is left of two runs", "a** *b", `"a** *b"`, "a** *b"},
		{"one run closes for two", "*a **b***", `em("a " strong("b"))`, "a b"},
		{"one run closes for two, the two outside", "**a *b***", `strong("a " em("b"))`, "a b"},
		{"one run opens for two", "***a* b**", `strong(em("a") " b")`, "a b"},
		{"one run opens for two, the two inside", "***a** b*", `em(strong("a") " b")`, "a b"},
		{"one run closes, and opens", "*a*b*c*", `em("a") "b" em("c")`, "abc"},
		{"one within another", "*a **b** c*", `em("a " strong("b") " c")`, "a b c"},
		{"one within another of the other sort", "_a *b* c_", `em("a " em("b") " c")`, "a b c"},
		{"one begins in another: the first end counts", "*a _b* c_", `em("a _b") " c_"`, "a _b c_"},
		{"the sum is a multiple of 3", "*a**b*", `em("a**b")`, "a**b"},
		{"both are multiples of 3", "***a***b", `em(strong("a")) "b"`, "ab"},
		{"side by side, of both sorts", "*a*_b_", `em("a") em("b")`, "ab"},
		{"of both sorts in one another", "*_a_*", `em(em("a"))`, "a"},
		{"more signs than count", strings.Repeat("*", 103) + "a" + strings.Repeat("*", 103),
			`"***" ` + strings.Repeat("strong(", 50) + `"a"` + strings.Repeat(")", 50) + ` "***"`, "***a***"},

		{"a link in it", "*[a](b)*", `em(link"b"("a"))`, "a"},
		{"it in a link", "[*a*](b)", `link"b"(em("a"))`, "a"},
		{"a run in a link pairs with none without", "*[a*](b)", `"*" link"b"("a*")`, "*a*"},
		{"a run in a link pairs with none behind", "[*a](b)*", `link"b"("*a") "*"`, "*a*"},
		{"a run without pairs over a link", "*a [*b](c) d*", `em("a " link"c"("*b") " d")`, "a *b d"},
		{"a run at the bracket has a blank beside it there", "a[_b_](c)d", `"a" link"c"(em("b")) "d"`, "abd"},
		{"a run behind a bracket, the same sign ahead of that", "*[*](a)", `"*" link"a"("*")`, "**"},
		{"a run without has the bracket beside it", "_[a](b)_c", `"_" link"b"("a") "_c"`, "_a_c"},
		{"a run in brackets that are no link", "*[a*]", `em("[a") "]"`, "[a]"},
		{"a run in a destination is none", "*[a](*)", `"*" link"*"("a")`, "*a"},
		{"an Auto in it", "*<ab:c>*", `em(link"ab:c"("ab:c"))`, "ab:c"},
	}.check(t)
}
