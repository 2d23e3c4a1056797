package esc

import (
	"math"
	"slices"
	"strings"
	"testing"
	"unicode/utf8"
	"unsafe"
)

// signs are the runes that the words of chapter 2 name as Punct below 128.
const signs = "!\"#$%&'()*+,-./:;<=>?@[\\]^_`{|}~"

// step is what Next answers.
type step struct {
	r    rune
	next int
	own  bool
}

// nextOf gives what Next answers of s at at.
func nextOf(s string, at int) step {
	r, next, own := Next(s, at)
	return step{r, next, own}
}

func TestNext(t *testing.T) {
	for _, c := range []struct {
		name, in string
		at       int
		want     step
	}{
		{"a letter", "ab", 0, step{'a', 1, false}},
		{"the last letter", "ab", 1, step{'b', 2, false}},
		{"a letter alone", "a", 0, step{'a', 1, false}},
		{"a sign", "*a", 0, step{'*', 1, false}},
		{"a sign alone", "*", 0, step{'*', 1, false}},
		{"a sign ahead of a sign", "**", 0, step{'*', 1, false}},
		{"byte 0", "\x00a", 0, step{0, 1, false}},
		{"byte 0 alone", "\x00", 0, step{0, 1, false}},
		{"byte 127", "\x7f", 0, step{127, 1, false}},
		{"an end of a line", "\r\n", 0, step{'\r', 1, false}},
		{"a blank", " \\*", 0, step{' ', 1, false}},
		{"two bytes", "\u00e9x", 0, step{0xE9, 2, false}},
		{"two bytes alone", "\u00e9", 0, step{0xE9, 2, false}},
		{"three bytes", "\u20acx", 0, step{0x20AC, 3, false}},
		{"four bytes", "\U0001f600x", 0, step{0x1F600, 4, false}},
		{"four bytes alone, last", "x\U0010ffff", 1, step{0x10FFFF, 5, false}},
		{"U+FFFD itself", "\ufffdx", 0, step{0xFFFD, 3, false}},

		{"\\ and a sign", "\\*a", 0, step{'*', 2, true}},
		{"\\ and a sign alone", "\\*", 0, step{'*', 2, true}},
		{"\\ and a sign, further on", "a\\*b", 1, step{'*', 3, true}},
		{"\\ and a sign, behind a longer rune", "\u20ac\\_", 3, step{'_', 5, true}},
		{"\\ and a sign ahead of a longer rune", "\\*\u20ac", 0, step{'*', 2, true}},
		{"\\ and a sign ahead of a lost byte", "\\*\xff", 0, step{'*', 2, true}},
		{"\\ and a sign ahead of a sign", "\\**", 0, step{'*', 2, true}},
		{"\\ and \\", "\\\\", 0, step{'\\', 2, true}},
		{"\\ and \\ ahead of a sign", "\\\\*", 0, step{'\\', 2, true}},
		{"what is ahead is not looked at", "\\\\*", 1, step{'*', 3, true}},
		{"a sign with \\ ahead", "\\*", 1, step{'*', 2, false}},

		{"\\ alone", "\\", 0, step{'\\', 1, false}},
		{"\\ last", "a\\", 1, step{'\\', 2, false}},
		{"\\ and a letter", "\\a", 0, step{'\\', 1, false}},
		{"\\ and a digit", "\\0", 0, step{'\\', 1, false}},
		{"\\ and a blank", "\\ *", 0, step{'\\', 1, false}},
		{"\\ and a tab", "\\\t", 0, step{'\\', 1, false}},
		{"\\ and an end of a line", "\\\n", 0, step{'\\', 1, false}},
		{"\\ and byte 0", "\\\x00", 0, step{'\\', 1, false}},
		{"\\ and byte 127", "\\\x7f", 0, step{'\\', 1, false}},
		{"\\ and a letter of two bytes", "\\\u00e9", 0, step{'\\', 1, false}},
		{"\\ and a Punct from 128 on, U+00A1", "\\\u00a1", 0, step{'\\', 1, false}},
		{"\\ and a Punct from 128 on, U+00A7", "\\\u00a7", 0, step{'\\', 1, false}},
		{"\\ and a Punct from 128 on, U+2014", "\\\u2014", 0, step{'\\', 1, false}},
		{"\\ and a Punct from 128 on, U+3001", "\\\u3001", 0, step{'\\', 1, false}},
		{"\\ and a rune whose last byte is a sign's and 128", "\\\u00ea", 0, step{'\\', 1, false}},
		{"\\ and a rune that is a sign's and 2^8", "\\\u012a", 0, step{'\\', 1, false}},
		{"\\ and U+FFFD", "\\\ufffd", 0, step{'\\', 1, false}},
		{"\\ and a lost byte", "\\\xff", 0, step{'\\', 1, false}},
		{"\\ and a lost byte, a sign's and 128", "\\\xaa", 0, step{'\\', 1, false}},

		{"a byte that never belongs", "\xffa", 0, step{0xFFFD, 1, false}},
		{"two of them", "\xff\xff", 0, step{0xFFFD, 1, false}},
		{"a lost byte ahead of \\", "\xff\\*", 0, step{0xFFFD, 1, false}},
		{"a follower alone", "\x80", 0, step{0xFFFD, 1, false}},
		{"a beginning alone", "\xe2\x82", 0, step{0xFFFD, 1, false}},
		{"what follows a beginning", "\xe2\x82", 1, step{0xFFFD, 2, false}},
		{"longer than need be", "\xc1\x9c*", 0, step{0xFFFD, 1, false}},
		{"a half of a pair", "\xed\xa0\x80", 0, step{0xFFFD, 1, false}},
		{"past the last rune", "\xf4\x90\x80\x80", 0, step{0xFFFD, 1, false}},
		{"the second of two bytes", "\u00e9x", 1, step{0xFFFD, 2, false}},
		{"the second of three bytes", "\u20acx", 1, step{0xFFFD, 2, false}},
		{"the third of three bytes", "\u20acx", 2, step{0xFFFD, 3, false}},
		{"the second of four bytes", "\U0001f600\\*", 1, step{0xFFFD, 2, false}},
		{"the last of four bytes", "\U0001f600\\*", 3, step{0xFFFD, 4, false}},

		{"at below 0", "ab", -1, step{'a', 1, false}},
		{"at far below 0", "ab", math.MinInt, step{'a', 1, false}},
		{"at below 0, \\ and a sign", "\\*", -2, step{'*', 2, true}},
		{"at the end", "ab", 2, step{0, 2, false}},
		{"past the end", "ab", 3, step{0, 2, false}},
		{"far past the end", "ab", math.MaxInt, step{0, 2, false}},
		{"past the end of \\ and a sign", "\\*", 2, step{0, 2, false}},
		{"past the end of \\", "\\", 1, step{0, 1, false}},
		{"the end in bytes, not in runes", "\u20ac", 3, step{0, 3, false}},
		{"nothing", "", 0, step{0, 0, false}},
		{"nothing, at below 0", "", -1, step{0, 0, false}},
		{"past nothing", "", 1, step{0, 0, false}},
	} {
		if got := nextOf(c.in, c.at); got != c.want {
			t.Errorf("P8.1: %s: Next(%q, %d) = %v, want %v", c.name, c.in, c.at, got, c.want)
		}
	}
}

// Every rune behind a \, and alone: none but the signs is taken, or quoted.
func TestEveryRune(t *testing.T) {
	for r := rune(0); r <= utf8.MaxRune; r++ {
		if !utf8.ValidRune(r) {
			continue
		}
		s := string(r)
		one, two := step{'\\', 1, false}, "\\"+s
		quoted, plain := s, "\\"+s
		if strings.ContainsRune(signs, r) {
			one, quoted, plain = step{r, 2, true}, "\\"+s, s
		}
		if got := nextOf(two, 0); got != one {
			t.Errorf("P8.1: Next(%q, 0) = %v, want %v", two, got, one)
		}
		if got := nextOf(s, 0); got != (step{r, len(s), false}) {
			t.Errorf("P8.1: Next(%q, 0) = %v", s, got)
		}
		if Quote(s) != quoted || Plain(two) != plain || Plain(s) != s {
			t.Errorf("P8.1: %q: Quote %q, Plain of it %q, of \\ and it %q", s, Quote(s), Plain(s), Plain(two))
		}
		if got := Html(s); got != htmlOf(s) {
			t.Errorf("P8.1: Html(%q) = %q", s, got)
		}
	}
}

// Each case: a text, Plain of it, Quote of it, Html of it.
var cases = []struct{ name, in, plain, quote, html string }{
	{"nothing", "", "", "", ""},
	{"one letter", "a", "a", "a", "a"},
	{"no signs", "a b\n\tc 1", "a b\n\tc 1", "a b\n\tc 1", "a b\n\tc 1"},
	{"\\ and a sign", "\\*", "*", "\\\\\\*", "\\*"},
	{"\\ and a sign between letters", "a\\*b", "a*b", "a\\\\\\*b", "a\\*b"},
	{"\\ and a letter", "\\a", "\\a", "\\\\a", "\\a"},
	{"\\ alone", "\\", "\\", "\\\\", "\\"},
	{"\\ twice", "\\\\", "\\", "\\\\\\\\", "\\\\"},
	{"\\ three times", "\\\\\\", "\\\\", "\\\\\\\\\\\\", "\\\\\\"},
	{"\\ four times", "\\\\\\\\", "\\\\", "\\\\\\\\\\\\\\\\", "\\\\\\\\"},
	{"\\ twice, and a sign", "\\\\*", "\\*", "\\\\\\\\\\*", "\\\\*"},
	{"\\ three times, and a sign", "\\\\\\*", "\\*", "\\\\\\\\\\\\\\*", "\\\\\\*"},
	{"\\ last", "a\\", "a\\", "a\\\\", "a\\"},
	{"\\ and a blank", "\\ *", "\\ *", "\\\\ \\*", "\\ *"},
	{"\\ and an end of a line", "a\\\nb", "a\\\nb", "a\\\\\nb", "a\\\nb"},
	{"\\ and a Punct from 128 on", "\\\u00a7\u2014", "\\\u00a7\u2014", "\\\\\u00a7\u2014", "\\\u00a7\u2014"},
	{"all signs", signs, "!\"#$%&'()*+,-./:;<=>?@[]^_`{|}~",
		"\\!\\\"\\#\\$\\%\\&\\'\\(\\)\\*\\+\\,\\-\\.\\/\\:\\;\\<\\=\\>\\?\\@\\[\\\\\\]\\^\\_\\`\\{\\|\\}\\~",
		"!&quot;#$%&amp;'()*+,-./:;&lt;=&gt;?@[\\]^_`{|}~"},
	{"a tag", "<a & \"b\">", "<a & \"b\">", "\\<a \\& \\\"b\\\"\\>", "&lt;a &amp; &quot;b&quot;&gt;"},
	{"an entity", "&amp;", "&amp;", "\\&amp\\;", "&amp;amp;"},
	{"entities in a row", "&<>\"", "&<>\"", "\\&\\<\\>\\\"", "&amp;&lt;&gt;&quot;"},
	{"\\ ahead of them", "\\&\\<", "&<", "\\\\\\&\\\\\\<", "\\&amp;\\&lt;"},
	{"' stays on a page", "'a'", "'a'", "\\'a\\'", "'a'"},
	{"byte 0", "a\x00\\\x00", "a\x00\\\x00", "a\x00\\\\\x00", "a\x00\\\x00"},
	{"runes of two, three, four bytes", "\u00e9<\u20ac\\*\U0001f600", "\u00e9<\u20ac*\U0001f600", "\u00e9\\<\u20ac\\\\\\*\U0001f600", "\u00e9&lt;\u20ac\\*\U0001f600"},
	{"U+FFFD itself", "\ufffd*", "\ufffd*", "\ufffd\\*", "\ufffd*"},
	{"lost bytes", "\xff\xfe", "\ufffd\ufffd", "\xff\xfe", "\xff\xfe"},
	{"lost bytes around signs", "\xff<\x80\\*\xc0", "\ufffd<\ufffd*\ufffd", "\xff\\<\x80\\\\\\*\xc0", "\xff&lt;\x80\\*\xc0"},
	{"\\ and a lost byte", "\\\xaa*", "\\\ufffd*", "\\\\\xaa\\*", "\\\xaa*"},
	{"a beginning alone, then a sign", "\xe2\x82>", "\ufffd\ufffd>", "\xe2\x82\\>", "\xe2\x82&gt;"},
}

func TestTexts(t *testing.T) {
	for _, c := range cases {
		if got := Plain(c.in); got != c.plain {
			t.Errorf("P8.1: %s: Plain(%q) = %q, want %q", c.name, c.in, got, c.plain)
		}
		if got := Quote(c.in); got != c.quote {
			t.Errorf("P8.1: %s: Quote(%q) = %q, want %q", c.name, c.in, got, c.quote)
		}
		if got := Html(c.in); got != c.html {
			t.Errorf("P8.1: %s: Html(%q) = %q, want %q", c.name, c.in, got, c.html)
		}
	}
}

func TestPlainOfQuote(t *testing.T) {
	for _, c := range cases {
		checkBack(t, c.in)
	}
}

// checkBack holds P8.2 of s; of runes that aren't valid what is left is asked: each lost byte U+FFFD, nothing else touched.
func checkBack(t *testing.T, s string) {
	t.Helper()
	if got, want := Plain(Quote(s)), string([]rune(s)); got != want {
		t.Errorf("P8.2: Plain(Quote(%q)) = %q, want %q", s, got, want)
	}
}

// Every text of up to five pieces, of those that bear on one another.
func TestEveryShortText(t *testing.T) {
	pieces := []string{"\\", "*", "<", "&", "\"", "a", " ", "\x00", "\u00e9", "\u2014", "\xe2", "\x80"}
	for n := range 6 {
		all := 1
		for range n {
			all *= len(pieces)
		}
		for number := range all {
			s := ""
			for range n {
				s += pieces[number%len(pieces)]
				number /= len(pieces)
			}
			checkText(t, s)
			if t.Failed() {
				return
			}
		}
	}
}

// checkText holds what the package says of s against its words, read bytewise from the left.
func checkText(t *testing.T, s string) {
	t.Helper()
	for at := -1; at <= len(s)+1; at++ {
		if got, want := nextOf(s, at), stepOf(s, at); got != want {
			t.Errorf("P8.1: Next(%q, %d) = %v, want %v", s, at, got, want)
		}
	}
	var plain []rune
	for at := 0; at < len(s); {
		one := stepOf(s, at)
		plain = append(plain, one.r)
		at = one.next
	}
	if got := Plain(s); got != string(plain) {
		t.Errorf("P8.1: Plain(%q) = %q, want %q", s, got, string(plain))
	}
	if got, want := Quote(s), quoteOf(s); got != want {
		t.Errorf("P8.1: Quote(%q) = %q, want %q", s, got, want)
	}
	if got, want := Html(s), htmlOf(s); got != want {
		t.Errorf("P8.1: Html(%q) = %q, want %q", s, got, want)
	}
	checkBack(t, s)
}

// stepOf reads s at at by the words of the chapter, clause by clause.
func stepOf(s string, at int) step {
	if at < 0 {
		at = 0
	}
	if at >= len(s) {
		return step{0, len(s), false}
	}
	if s[at] == '\\' && at+1 < len(s) && strings.IndexByte(signs, s[at+1]) >= 0 {
		return step{rune(s[at+1]), at + 2, true}
	}
	r, size := utf8.DecodeRuneInString(s[at:])
	return step{r, at + size, false}
}

// quoteOf gives s with \ ahead of each byte that is a sign's.
func quoteOf(s string) string {
	var b []byte
	for i := range len(s) {
		if strings.IndexByte(signs, s[i]) >= 0 {
			b = append(b, '\\')
		}
		b = append(b, s[i])
	}
	return string(b)
}

// htmlOf gives s as a page says it, & first, so that no name is named again.
func htmlOf(s string) string {
	s = strings.ReplaceAll(s, "&", "&amp;")
	s = strings.ReplaceAll(s, "<", "&lt;")
	s = strings.ReplaceAll(s, ">", "&gt;")
	return strings.ReplaceAll(s, "\"", "&quot;")
}

func TestLongTexts(t *testing.T) {
	const n = 1 << 18
	s := strings.Repeat("\\*\u20ac", n)
	// A text is asked for step by step: that must not cost its length each time.
	for at, i := 0, 0; i < n; i++ {
		if got := nextOf(s, at); got != (step{'*', at + 2, true}) {
			t.Fatalf("P8.1: Next at %d = %v", at, got)
		}
		if got := nextOf(s, at+2); got != (step{0x20AC, at + 5, false}) {
			t.Fatalf("P8.1: Next at %d = %v", at+2, got)
		}
		at += 5
	}
	if Plain(s) != strings.Repeat("*\u20ac", n) || Plain(strings.Repeat("\\", 2*n+1)) != strings.Repeat("\\", n+1) {
		t.Error("P8.1: Plain of a long text")
	}
	if Quote(s) != strings.Repeat("\\\\\\*\u20ac", n) || Quote(strings.Repeat("a", n)) != strings.Repeat("a", n) {
		t.Error("P8.1: Quote of a long text")
	}
	if Html(strings.Repeat("<\xff", n)) != strings.Repeat("&lt;\xff", n) {
		t.Error("P8.1: Html of a long text")
	}
}

func TestAnswersAreNewMemory(t *testing.T) {
	whole := []byte("a text without signs in a longer one")
	was := slices.Clone(whole)
	s := unsafe.String(unsafe.SliceData(whole), 20)
	answers := []string{Plain(s), Quote(s), Html(s)}
	if !slices.Equal(whole, was) {
		t.Errorf("R2: the text is now %q", whole)
	}
	for i := range whole {
		whole[i] = 'x'
	}
	for i, got := range answers {
		if got != "a text without signs" {
			t.Errorf("R2: answer %d shares memory with the text: %q", i, got)
		}
	}
}
