package leaf

import (
	"regexp"
	"strings"
	"testing"
	"unsafe"
)

func TestHeading(t *testing.T) {
	for _, c := range []struct {
		name, in string
		level    int
		text     string
	}{
		{"one sign and a text", "# a", 1, "a"},
		{"two signs", "## a", 2, "a"},
		{"three signs", "### a", 3, "a"},
		{"four signs", "#### a", 4, "a"},
		{"five signs", "##### a", 5, "a"},
		{"six signs", "###### a", 6, "a"},
		{"a sign alone", "#", 1, ""},
		{"six signs alone", "######", 6, ""},
		{"a blank alone behind", "# ", 1, ""},
		{"a tab alone behind", "##\t", 2, ""},
		{"blanks and tabs alone behind", "### \t \t", 3, ""},
		{"a tab ahead of the text", "#\ta", 1, "a"},
		{"blanks and tabs around the text", "# \t a \t ", 1, "a"},
		{"blanks and tabs within the text", "#  a \t b", 1, "a \t b"},
		{"one blank ahead", " # a", 1, "a"},
		{"three blanks ahead", "   ## a", 2, "a"},
		{"one sign closes it", "# a #", 1, "a"},
		{"more signs close it", "# a ########", 1, "a"},
		{"fewer signs close it", "#### a ##", 4, "a"},
		{"a tab ahead of what closes it", "# a\t##", 1, "a"},
		{"blanks and tabs ahead of what closes it", "# a \t #", 1, "a"},
		{"blanks and tabs behind what closes it", "# a ## \t ", 1, "a"},
		{"what closes it is all of the text", "# #", 1, ""},
		{"what closes it is more, and all", "### ###", 3, ""},
		{"what closes it is all, further off", "## \t ## ", 2, ""},
		{"only the last signs close it", "# ## #", 1, "##"},
		{"only the last signs close it, behind a word", "# a # ##", 1, "a #"},
		{"only the last signs close it, at a word", "# a## ##", 1, "a##"},
		{"signs at a word", "# a#", 1, "a#"},
		{"signs at the last word", "# a b##", 1, "a b##"},
		{"signs at a word, blanks behind", "# a# \t", 1, "a#"},
		{"signs ahead of a word", "# #a", 1, "#a"},
		{"signs within the text", "# a # b", 1, "a # b"},
		{"signs with something behind", "# a #b", 1, "a #b"},
		{"\\ ahead of signs", "# a \\#", 1, "a \\#"},
		{"\\ between signs", "# a #\\##", 1, "a #\\##"},
		{"another blank ahead of signs", "# a\u00a0#", 1, "a\u00a0#"},
		{"another blank behind signs", "# a #\u3000", 1, "a #\u3000"},
		{"an end of a line ahead of signs", "# a\n#", 1, "a\n#"},
		{"other blanks stay", "# \u00a0a\u3000 ", 1, "\u00a0a\u3000"},
		{"ends of lines stay", "# \ra\n ", 1, "\ra\n"},
		{"bytes 11 and 12 stay", "# \va\f", 1, "\va\f"},
		{"other signs", "# *a* `b` > - ~~~", 1, "*a* `b` > - ~~~"},
		{"runes", "## \u00e9 \U0001f600 ##", 2, "\u00e9 \U0001f600"},
		{"bytes of no rune", "# \xff\x80 #", 1, "\xff\x80"},
		{"byte 0", "# \x00", 1, "\x00"},
	} {
		level, text, ok := Heading(c.in)
		if level != c.level || text != c.text || !ok {
			t.Errorf("P6.1: %s: Heading(%q) = %d, %q, %v, want %d, %q", c.name, c.in, level, text, ok, c.level, c.text)
		}
	}
}

func TestHeadingNone(t *testing.T) {
	for _, c := range []struct{ name, in string }{
		{"nothing", ""},
		{"blanks", "  "},
		{"a letter", "a"},
		{"seven signs", "#######"},
		{"seven signs and a text", "####### a"},
		{"eight signs", "######## a"},
		{"a letter at the sign", "#a"},
		{"a letter at six signs", "######a"},
		{"another sign at it", "#-"},
		{"\\ at it", "#\\ a"},
		{"another blank at it", "#\u00a0a"},
		{"an end of a line at it", "#\n"},
		{"byte 13 at it", "#\r"},
		{"byte 11 at it", "#\va"},
		{"byte 0 at it", "#\x00"},
		{"a byte of no rune at it", "#\xff"},
		{"four blanks ahead", "    # a"},
		{"a tab ahead", "\t# a"},
		{"a blank and a tab ahead", " \t# a"},
		{"three blanks and a tab ahead", "   \t# a"},
		{"far in", "            # a"},
		{"a letter ahead", "a # b"},
		{"\\ ahead", "\\# a"},
		{"another blank ahead", "\u00a0# a"},
		{"an end of a line ahead", "\n# a"},
		{"byte 0 ahead", "\x00# a"},
		{"a byte of no rune ahead", "\xff# a"},
		{"another sign", "= a"},
	} {
		if level, text, ok := Heading(c.in); level != 0 || text != "" || ok {
			t.Errorf("P6.1: %s: Heading(%q) = %d, %q, %v, want none", c.name, c.in, level, text, ok)
		}
	}
}

func TestBreak(t *testing.T) {
	for _, c := range []struct {
		name, in string
		want     bool
	}{
		{"three -", "---", true},
		{"three *", "***", true},
		{"three _", "___", true},
		{"four", "----", true},
		{"many", strings.Repeat("_", 99), true},
		{"a blank between", "- - -", true},
		{"a tab between", "*\t*\t*", true},
		{"blanks and tabs between", "_ \t _\t \t_", true},
		{"between some of them", "-- -", true},
		{"four and blanks between", "* * **", true},
		{"blanks and tabs behind", "--- \t ", true},
		{"blanks between and behind", "* * *\t", true},
		{"one blank ahead", " ---", true},
		{"three blanks ahead", "   * * *", true},
		{"one", "-", false},
		{"two", "--", false},
		{"two with a blank between", "- -", false},
		{"two and blanks behind", "**   ", false},
		{"nothing", "", false},
		{"blanks alone", "   ", false},
		{"tabs alone", "\t\t", false},
		{"four blanks ahead", "    ---", false},
		{"a tab ahead", "\t---", false},
		{"a blank and a tab ahead", " \t***", false},
		{"a letter ahead", "a---", false},
		{"\\ ahead", "\\---", false},
		{"another blank ahead", "\u00a0---", false},
		{"an end of a line ahead", "\n---", false},
		{"a letter behind", "---a", false},
		{"a letter behind a blank", "--- a", false},
		{"a letter between", "--a-", false},
		{"a letter behind many", "* * * * * b", false},
		{"another of the signs behind", "---*", false},
		{"another of the signs first", "*---", false},
		{"another of the signs between", "_ * _ _", false},
		{"signs by turns", "-*_-*_-*_", false},
		{"another blank between", "-\u00a0--", false},
		{"another blank behind", "---\u3000", false},
		{"an end of a line behind", "---\n", false},
		{"byte 13 behind", "---\r", false},
		{"bytes 11 and 12 between", "-\v-\f-", false},
		{"byte 0 behind", "***\x00", false},
		{"bytes of no rune", "---\xff", false},
		{"+ is none of the signs", "+++", false},
		{"= is none of the signs", "===", false},
		{"# is none of the signs", "###", false},
		{"~ is none of the signs", "~~~", false},
		{"letters", "aaa", false},
		{"bytes 0 alone", "\x00\x00\x00", false},
		{"bytes of no rune alone", "\xff\xff\xff", false},
	} {
		if got := Break(c.in); got != c.want {
			t.Errorf("P6.1: %s: Break(%q) = %v", c.name, c.in, got)
		}
	}
}

func TestQuote(t *testing.T) {
	for _, c := range []struct {
		name, in, want string
		ok             bool
	}{
		{"a sign alone", ">", "", true},
		{"a blank behind", "> ", "", true},
		{"a blank and a text", "> a", "a", true},
		{"a text at the sign", ">a", "a", true},
		{"one column alone is taken", ">  a", " a", true},
		{"blanks alone", ">   ", "  ", true},
		{"a tab", ">\ta", "   a", true},
		{"a tab alone", ">\t", "   ", true},
		{"two tabs", ">\t\ta", "   \ta", true},
		{"a blank and a tab", "> \ta", "\ta", true},
		{"a tab and a blank", ">\t a", "    a", true},
		{"one blank ahead", " > a", "a", true},
		{"three blanks ahead", "   > a", "a", true},
		{"the tab is counted from the sign on, one blank ahead", " >\ta", "   a", true},
		{"the tab is counted from the sign on, three blanks ahead", "   >\ta", "   a", true},
		{"a quote within", ">>a", ">a", true},
		{"a quote within, behind a blank", "> > a", "> a", true},
		{"an item within", "> - a", "- a", true},
		{"what is behind the text stays", "> a \t ", "a \t ", true},
		{"another blank stays", ">\u00a0a", "\u00a0a", true},
		{"an end of a line stays", ">\n a", "\n a", true},
		{"byte 0 stays", "> \x00", "\x00", true},
		{"bytes of no rune stay", ">\xff\x80", "\xff\x80", true},
		{"runes", "> \u00e9\U0001f600", "\u00e9\U0001f600", true},
		{"nothing", "", "", false},
		{"blanks alone, no sign", "   ", "", false},
		{"a letter", "a", "", false},
		{"four blanks ahead", "    > a", "", false},
		{"a tab ahead", "\t> a", "", false},
		{"three blanks and a tab ahead", "   \t> a", "", false},
		{"a letter ahead", "a > b", "", false},
		{"\\ ahead", "\\> a", "", false},
		{"another blank ahead", "\u00a0> a", "", false},
		{"an end of a line ahead", "\n> a", "", false},
		{"a byte of no rune ahead", "\xff>", "", false},
		{"the sign turned round", "< a", "", false},
		{"another sign", "- > a", "", false},
	} {
		if got, ok := Quote(c.in); got != c.want || ok != c.ok {
			t.Errorf("P6.2: %s: Quote(%q) = %q, %v, want %q, %v", c.name, c.in, got, ok, c.want, c.ok)
		}
	}
}

func TestItem(t *testing.T) {
	for _, c := range []struct {
		name, in string
		sign     byte
		columns  int
		want     string
	}{
		{"-", "- a", '-', 2, "a"},
		{"*", "* a", '*', 2, "a"},
		{"+", "+ a", '+', 2, "a"},
		{"- alone", "-", '-', 2, ""},
		{"* alone", "*", '*', 2, ""},
		{"+ alone", "+", '+', 2, ""},
		{"one blank alone behind", "- ", '-', 2, ""},
		{"three blanks alone behind", "-   ", '-', 2, ""},
		{"seven blanks alone behind", "-       ", '-', 2, ""},
		{"a tab alone behind", "*\t", '*', 2, ""},
		{"blanks and tabs alone behind", "+ \t \t", '+', 2, ""},
		{"two blanks", "-  a", '-', 3, "a"},
		{"three blanks", "-   a", '-', 4, "a"},
		{"four blanks", "-    a", '-', 5, "a"},
		{"five blanks", "-     a", '-', 2, "    a"},
		{"six blanks", "-      a", '-', 2, "     a"},
		{"a tab", "-\ta", '-', 5, "a"},
		{"a blank and a tab", "- \ta", '-', 5, "a"},
		{"two blanks and a tab", "-  \ta", '-', 5, "a"},
		{"three blanks and a tab", "-   \ta", '-', 5, "a"},
		{"four blanks and a tab", "-    \ta", '-', 2, "   \ta"},
		{"a tab and a blank", "-\t a", '-', 2, "    a"},
		{"two tabs", "-\t\ta", '-', 2, "   \ta"},
		{"a blank and two tabs", "- \t\ta", '-', 2, "\t\ta"},
		{"one blank ahead", " - a", '-', 3, "a"},
		{"three blanks ahead", "   * a", '*', 5, "a"},
		{"three blanks ahead, four behind", "   -    a", '-', 8, "a"},
		{"three blanks ahead, five behind", "   -     a", '-', 5, "    a"},
		{"three blanks ahead of a sign alone", "   +", '+', 5, ""},
		{"two blanks ahead, blanks and tabs behind", "  - \t", '-', 4, ""},
		{"the tab is counted from the sign on, one blank ahead", " -\ta", '-', 6, "a"},
		{"the tab is counted from the sign on, two blanks ahead", "  -\ta", '-', 7, "a"},
		{"the tab is counted from the sign on, three blanks ahead", "   -\ta", '-', 8, "a"},
		{"what is behind the text stays", "- a \t ", '-', 2, "a \t "},
		{"another blank is content", "- \u00a0", '-', 2, "\u00a0"},
		{"ends of lines are content", "-  \n ", '-', 3, "\n "},
		{"byte 0 is content", "- \x00", '-', 2, "\x00"},
		{"a byte of no rune is content", "-\t\xff", '-', 5, "\xff"},
		{"runes", "+  \u00e9\U0001f600", '+', 3, "\u00e9\U0001f600"},
		{"an item within", "- - a", '-', 2, "- a"},
		{"a quote within", "*  > a", '*', 3, "> a"},
		{"two signs, no break", "- -", '-', 2, "-"},
		{"signs mixed, no break", "* - *", '*', 2, "- *"},
		{"another break within", "* ---", '*', 2, "---"},
		{"signs and a letter, no break", "- - - a", '-', 2, "- - a"},
		{"+ makes no break", "+ + +", '+', 2, "+ +"},
	} {
		sign, in, got, ok := Item(c.in)
		if sign != c.sign || in != c.columns || got != c.want || !ok {
			t.Errorf("P6.2: %s: Item(%q) = %q, %d, %q, %v, want %q, %d, %q", c.name, c.in, sign, in, got, ok, c.sign, c.columns, c.want)
		}
	}
}

func TestItemNone(t *testing.T) {
	for _, c := range []struct{ name, in string }{
		{"nothing", ""},
		{"blanks", "   "},
		{"a letter", "a"},
		{"a letter at -", "-a"},
		{"a letter at *", "*a"},
		{"a letter at +", "+a"},
		{"two -", "--"},
		{"two *", "** a"},
		{"two +", "++"},
		{"three +", "+++"},
		{"\\ at it", "-\\ a"},
		{"another blank at it", "-\u00a0a"},
		{"an end of a line at it", "-\n"},
		{"byte 13 at it", "*\r"},
		{"byte 11 at it", "+\va"},
		{"byte 0 at it", "-\x00"},
		{"a byte of no rune at it", "-\xff"},
		{"four blanks ahead", "    - a"},
		{"a tab ahead", "\t- a"},
		{"a blank and a tab ahead", " \t* a"},
		{"three blanks and a tab ahead", "   \t+ a"},
		{"a letter ahead", "a - b"},
		{"\\ ahead", "\\- a"},
		{"another blank ahead", "\u00a0- a"},
		{"an end of a line ahead", "\n- a"},
		{"a break of -", "- - -"},
		{"a break of *", "* * *"},
		{"a break of - with signs at one another", "- --"},
		{"a break of * with tabs", "*\t*\t* "},
		{"a break further in", "   - - -"},
		{"a break without blanks", "***"},
		{"_ is none of the signs", "_ a"},
		{"> is none of the signs", "> a"},
		{"# is none of the signs", "# a"},
		{"a number", "1. a"},
	} {
		if sign, in, got, ok := Item(c.in); sign != 0 || in != 0 || got != "" || ok {
			t.Errorf("P6.2: %s: Item(%q) = %q, %d, %q, %v, want none", c.name, c.in, sign, in, got, ok)
		}
	}
}

// What a line looks like as a whole.
var (
	heading = regexp.MustCompile(`^ {0,3}(#{1,6})(?s:[ \t]+(.*?))??(?:[ \t]+#+)?[ \t]*$`)
	breaks  = regexp.MustCompile(`^ {0,3}(?:(?:-[ \t]*){3,}|(?:\*[ \t]*){3,}|(?:_[ \t]*){3,})$`)
	quote   = regexp.MustCompile(`^ {0,3}>(?s:( ?)(\t?)(.*))$`)
	bare    = regexp.MustCompile(`^( {0,3})([*+-])[ \t]*$`)
	near    = regexp.MustCompile(`^( {0,3})([*+-])( {1,4}| {0,3}\t)(?s:([^ \t].*))$`)
	far     = regexp.MustCompile(`^( {0,3})([*+-])([ \t])(?s:(.*))$`)
)

// headed gives what Heading must.
func headed(s string) (int, string, bool) {
	m := heading.FindStringSubmatch(s)
	if m == nil {
		return 0, "", false
	}
	return len(m[1]), m[2], true
}

// quoted gives what Quote must: of a tab that is taken, three columns are left.
func quoted(s string) (string, bool) {
	m := quote.FindStringSubmatch(s)
	switch {
	case m == nil:
		return "", false
	case m[1] == "" && m[2] != "":
		return "   " + m[3], true
	}
	return m[2] + m[3], true
}

// listed gives what Item must: a gap that ends with a tab, of those that are near, is four columns.
func listed(s string) (byte, int, string, bool) {
	if breaks.MatchString(s) {
		return 0, 0, "", false
	}
	if m := bare.FindStringSubmatch(s); m != nil {
		return m[2][0], len(m[1]) + 2, "", true
	}
	if m := near.FindStringSubmatch(s); m != nil {
		gap := len(m[3])
		if strings.HasSuffix(m[3], "\t") {
			gap = 4
		}
		return m[2][0], len(m[1]) + 1 + gap, m[4], true
	}
	if m := far.FindStringSubmatch(s); m != nil {
		left := ""
		if m[3] == "\t" {
			left = "   "
		}
		return m[2][0], len(m[1]) + 2, left + m[4], true
	}
	return 0, 0, "", false
}

// holdAll holds every call's answer of s against what s looks like.
func holdAll(t *testing.T, s string) {
	t.Helper()
	level, text, ok := Heading(s)
	if l, x, o := headed(s); level != l || text != x || ok != o {
		t.Fatalf("P6.1: Heading(%q) = %d, %q, %v, want %d, %q, %v", s, level, text, ok, l, x, o)
	}
	if got := Break(s); got != breaks.MatchString(s) {
		t.Fatalf("P6.1: Break(%q) = %v", s, got)
	}
	rest, ok := Quote(s)
	if r, o := quoted(s); rest != r || ok != o {
		t.Fatalf("P6.2: Quote(%q) = %q, %v, want %q, %v", s, rest, ok, r, o)
	}
	sign, in, rest, ok := Item(s)
	if b, i, r, o := listed(s); sign != b || in != i || rest != r || ok != o {
		t.Fatalf("P6.2: Item(%q) = %q, %d, %q, %v, want %q, %d, %q, %v", s, sign, in, rest, ok, b, i, r, o)
	}
}

// eachText calls f with every text of at most most bytes out of signs.
func eachText(signs string, most int, f func(string)) {
	level := []string{""}
	for range most + 1 {
		var next []string
		for _, s := range level {
			f(s)
			for i := range len(signs) {
				next = append(next, s+signs[i:i+1])
			}
		}
		level = next
	}
}

func TestEveryShortText(t *testing.T) {
	eachText(" \t-*_+>#a", 5, func(s string) { holdAll(t, s) })
	eachText(" \t#a", 7, func(s string) { holdAll(t, s) })
	eachText(" \t-*a", 6, func(s string) { holdAll(t, s) })
	eachText("# \n\xff", 5, func(s string) { holdAll(t, s) })
	eachText("- \n\xff", 5, func(s string) { holdAll(t, s) })
}

// Each sign, as often as it may be and more often, further and further in, with every short text behind.
func TestEveryShortTextBehindSigns(t *testing.T) {
	for in := range 6 {
		ahead := strings.Repeat(" ", in)
		for n := 1; n < 9; n++ {
			signs := strings.Repeat("#", n)
			eachText(" \t#a", 4, func(s string) { holdAll(t, ahead+signs+s) })
		}
		for _, sign := range []string{"-", "*", "_", "+", ">", "- ", "* *", "-\t-"} {
			eachText(" \ta"+sign[:1], 6, func(s string) { holdAll(t, ahead+sign+s) })
		}
	}
}

func TestLongTexts(t *testing.T) {
	const n = 1 << 20
	blanks, word := strings.Repeat(" ", n), strings.Repeat("a", n)
	for _, s := range []string{strings.Repeat("#", n), strings.Repeat("#", n) + " a", blanks + "# a", blanks + "> a", blanks + "---", blanks + "- a"} {
		if _, _, ok := Heading(s); ok {
			t.Errorf("P6.1: Heading of %d bytes holds", len(s))
		}
		if _, ok := Quote(s); ok || Break(s) {
			t.Errorf("P6.1, P6.2: Quote or Break of %d bytes holds", len(s))
		}
		if _, _, _, ok := Item(s); ok {
			t.Errorf("P6.2: Item of %d bytes holds", len(s))
		}
	}
	if level, text, ok := Heading("#" + blanks + word + blanks + strings.Repeat("#", n) + blanks); level != 1 || text != word || !ok {
		t.Error("P6.1: Heading of a long text")
	}
	if !Break(strings.Repeat("- \t", n)) || Break(strings.Repeat("- \t", n)+"*") {
		t.Error("P6.1: Break of a long text")
	}
	if rest, ok := Quote(">" + blanks + word); rest != blanks[1:]+word || !ok {
		t.Error("P6.2: Quote of a long text")
	}
	if sign, in, rest, ok := Item("+" + blanks + word); sign != '+' || in != 2 || rest != blanks[1:]+word || !ok {
		t.Error("P6.2: Item of a long gap")
	}
	if sign, in, rest, ok := Item("-" + blanks); sign != '-' || in != 2 || rest != "" || !ok {
		t.Error("P6.2: Item of a long nothing")
	}
}

// shared tells whether part lies within whole's memory.
func shared(part, whole string) bool {
	at := uintptr(unsafe.Pointer(unsafe.StringData(part)))
	from := uintptr(unsafe.Pointer(unsafe.StringData(whole)))
	return part != "" && at >= from && at < from+uintptr(len(whole))
}

func TestTextsAreNewMemory(t *testing.T) {
	for _, s := range []string{"# a", "## a b ##", "# a#", "> a", ">a", ">  a", "- a", "*\ta", "+      a"} {
		_, text, _ := Heading(s)
		quoted, _ := Quote(s)
		_, _, content, _ := Item(s)
		if shared(text, s) || shared(quoted, s) || shared(content, s) {
			t.Errorf("R2: of %q: a text shares memory with it", s)
		}
	}
}
