package link

import (
	"math"
	"slices"
	"strings"
	"testing"
	"unicode/utf8"
	"unsafe"
)

// found is what Auto and Dest answer.
type found struct {
	text string
	end  int
	ok   bool
}

// place is what Close answers.
type place struct {
	at int
	ok bool
}

// autoAt gives what Auto answers of s at at.
func autoAt(s string, at int) found {
	text, end, ok := Auto(s, at)
	return found{text, end, ok}
}

// destAt gives what Dest answers of s at at.
func destAt(s string, at int) found {
	text, end, ok := Dest(s, at)
	return found{text, end, ok}
}

// closeAt gives what Close answers of s at at.
func closeAt(s string, at int) place {
	end, ok := Close(s, at)
	return place{end, ok}
}

func TestAuto(t *testing.T) {
	for _, c := range []struct {
		name, in string
		at       int
		text     string
		end      int
	}{
		{"a page", "<http://a.b/c?d=e#f>", 0, "http://a.b/c?d=e#f", 20},
		{"two letters", "<ab:c>", 0, "ab:c", 6},
		{"twelve letters", "<abcdefghijkl:c>", 0, "abcdefghijkl:c", 16},
		{"the first and the last letter", "<az:c>", 0, "az:c", 6},
		{"nothing behind the :", "<ab:>", 0, "ab:", 5},
		{"a second :", "<ab:c:d>", 0, "ab:c:d", 8},
		{"a : right behind the first", "<ab::>", 0, "ab::", 6},
		{"capitals behind the :", "<ab:CD>", 0, "ab:CD", 7},
		{"further on", "x <ab:c> y", 2, "ab:c", 8},
		{"what is behind isn't looked at", "<ab:c> <de:f>", 0, "ab:c", 6},
		{"the second of a text", "<ab:c> <de:f>", 7, "de:f", 13},
		{"a second > right behind", "<ab:c>>", 0, "ab:c", 6},
		{"a < ahead", "<<ab:c>", 1, "ab:c", 7},
		{"behind a \\", "\\<ab:c>", 1, "ab:c", 7},
		{"within code", "`<ab:c>`", 1, "ab:c", 7},
		{"a \\ within says nothing", "<ab:\\a\\*>", 0, "ab:\\a\\*", 9},
		{"a \\ ahead of the > says nothing", "<ab:c\\>", 0, "ab:c\\", 7},
		{"a \\ ahead of the >, and a > further on", "<ab:c\\>d>", 0, "ab:c\\", 7},
		{"other signs", "<ab:[c](d)`*_`\"'&>", 0, "ab:[c](d)`*_`\"'&", 18},
		{"runes of more bytes", "\u20ac<ab:\u00e9\U0001f600>", 3, "ab:\u00e9\U0001f600", 14},
		{"runes that look like blanks", "<ab:\u0085\u2002\u2028>", 0, "ab:\u0085\u2002\u2028", 13},
		{"bytes of no rune", "<ab:\xff\x80\xe3\x80>", 0, "ab:\xff\x80\xe3\x80", 9},
		{"a blank's last byte alone", "<ab:\xa0>", 0, "ab:\xa0", 6},
		{"a byte that is > and 128", "<ab:\xbe>", 0, "ab:\xbe", 6},
		{"a rune that is > and 2^8", "<ab:\u013e>", 0, "ab:\u013e", 7},
		{"byte 0", "<ab:\x00>", 0, "ab:\x00", 6},
		{"byte 127", "<ab:\x7f>", 0, "ab:\x7f", 6},
	} {
		if got, want := autoAt(c.in, c.at), (found{c.text, c.end, true}); got != want {
			t.Errorf("P11.1: %s: Auto(%q, %d) = %#v, want %#v", c.name, c.in, c.at, got, want)
		}
	}
}

func TestAutoNone(t *testing.T) {
	for _, c := range []struct {
		name, in string
		at       int
	}{
		{"nothing", "", 0},
		{"< alone", "<", 0},
		{"nothing between", "<>", 0},
		{"a letter", "a", 0},
		{"a tag", "<a>", 0},
		{"no scheme", "<:b>", 0},
		{"a : alone", ":", 0},
		{"one letter", "<a:b>", 0},
		{"thirteen letters", "<abcdefghijklm:b>", 0},
		{"no :", "<abc>", 0},
		{"no : ahead of the >", "<ab>:c>", 0},
		{"no >", "<ab:c", 0},
		{"no > at all", "<ab:", 0},
		{"the scheme alone", "<ab", 0},
		{"twelve letters alone", "<abcdefghijkl", 0},
		{"thirteen letters alone", "<abcdefghijklm", 0},
		{"a capital first", "<Ab:c>", 0},
		{"a capital last", "<abC:c>", 0},
		{"a digit", "<a1:c>", 0},
		{"a digit behind two letters", "<ab1:c>", 0},
		{"a sign in the scheme", "<a+b:c>", 0},
		{"just ahead of a", "<ab`:c>", 0},
		{"just behind z", "<ab{:c>", 0},
		{"a longer letter in the scheme", "<ab\u00e9:c>", 0},
		{"a byte of no rune in the scheme", "<ab\xff:c>", 0},
		{"a byte that is a letter and 128", "<a\xe2:c>", 0},
		{"a rune that is a letter and 2^8", "<ab\u0161:c>", 0},
		{"a \\ in the scheme", "<ab\\:c>", 0},
		{"a blank ahead of the scheme", "< ab:c>", 0},
		{"a blank ahead of the :", "<ab :c>", 0},
		{"a blank right behind the :", "<ab: c>", 0},
		{"a blank ahead of the >", "<ab:c >", 0},
		{"a tab", "<ab:c\td>", 0},
		{"an end of a line", "<ab:c\nd>", 0},
		{"byte 13", "<ab:c\r>", 0},
		{"a blank of two bytes", "<ab:\u00a0>", 0},
		{"a blank of three bytes", "<ab:c\u3000d>", 0},
		{"another <", "<ab:c<d>", 0},
		{"another < right behind the :", "<ab:<>", 0},
		{"another < behind a \\", "<ab:\\<c>", 0},
		{"< within the scheme", "<a<b:c>", 0},
		{"a whole one within", "<ab:<cd:e>", 0},
		{"a < further on", "a<ab:c>", 0},
		{"the place behind the <", "<ab:c>", 1},
		{"the >", "<ab:c>", 5},
		{"a > in its place", ">ab:c>", 0},
		{"a byte that is < and 128", "\xbcab:c>", 0},
		{"a rune that is < and 2^8", "\u013cab:c>", 0},
		{"within a rune", "\u20ac<ab:c>", 1},
		{"the end", "<ab:c>", 6},
		{"past the end", "<ab:c>", 7},
		{"far past the end", "<ab:c>", math.MaxInt},
		{"at 2^32", "<ab:c>", 1 << 32},
		{"just below 0", "<ab:c>", -1},
		{"below 0 by the text's length", "<ab:c>", -6},
		{"far below 0", "<ab:c>", math.MinInt},
		{"below 0 of nothing", "", -1},
		{"past nothing", "", 1},
	} {
		if got := autoAt(c.in, c.at); got != (found{}) {
			t.Errorf("P11.1: %s: Auto(%q, %d) = %#v, want none", c.name, c.in, c.at, got)
		}
	}
}

func TestClose(t *testing.T) {
	for _, c := range []struct {
		name, in string
		at, want int
	}{
		{"a letter", "[a]", 0, 2},
		{"nothing between", "[]", 0, 1},
		{"more of them", "[a b\nc]", 0, 6},
		{"further on", "a[b]c", 1, 3},
		{"the first ] that closes it", "[a]b]", 0, 2},
		{"what is behind isn't looked at", "[a][b", 0, 2},
		{"the second of a text", "[a][b]", 3, 5},
		{"one within", "[a[b]c]", 0, 6},
		{"the one within", "[a[b]c]", 2, 4},
		{"two side by side within", "[[a][b]]", 0, 7},
		{"four deep", "[[[[]]]]", 0, 7},
		{"one that isn't closed ahead", "[[a]", 1, 3},
		{"ends of other links within", "[a](b)]", 0, 2},
		{"( and ) within", "[(a]b)", 0, 3},

		{"an escaped ] within", "[\\]]", 0, 3},
		{"an escaped [ within", "[\\[]", 0, 3},
		{"an escaped \\ ahead of the ]", "[\\\\]", 0, 3},
		{"an escaped \\ and an escaped ]", "[\\\\\\]]", 0, 5},
		{"a \\ ahead of a letter", "[\\a]", 0, 3},
		{"a \\ ahead of a [ that is asked for", "\\[a]", 1, 3},
		{"a \\ ahead of it, one within", "\\[[a]]", 1, 5},

		{"a ] within code", "[`]`]", 0, 4},
		{"a [ within code", "[`[`]", 0, 4},
		{"a ] within code of two", "[``]`]``]", 0, 8},
		{"an escaped ` within code", "[`\\`]`", 0, 4},
		{"a \\ ahead of the end of code", "[`]\\`]", 0, 5},
		{"code and code", "[`]``]` `]`]", 0, 11},
		{"a run that no other closes", "[`]", 0, 2},
		{"a run of two that one would close", "[``]`", 0, 3},
		{"a run of one that two would close", "[`]``", 0, 2},
		{"a run of two that three would close, and one behind", "[``]```]`", 0, 3},
		{"a run that no other closes, then code", "[```]``a`]`", 0, 4},
		{"a run that no other closes, then code with a ]", "[```a`]`]", 0, 8},
		{"an escaped `", "[\\`]`", 0, 3},
		{"an escaped ` ahead of another", "[\\``]`", 0, 4},
		{"an escaped ` behind an escaped \\", "[\\\\`]`]", 0, 6},
		{"an Auto within code", "[`<ab:`]>]", 0, 7},
		{"code that begins ahead of it", "`[a`]", 1, 4},
		{"code that begins ahead of it, and within", "`[a`]`]", 1, 6},
		{"ends of lines within code", "[`\n]\n`]", 0, 6},

		{"a ] within an Auto", "[<ab:]>]", 0, 7},
		{"a [ within an Auto", "[<ab:[>]", 0, 7},
		{"a \\ within an Auto", "[<ab:\\>]>]", 0, 7},
		{"a ` within an Auto", "[<ab:`>]`]", 0, 7},
		{"an Auto and an Auto", "[<ab:]><cd:]>]", 0, 13},
		{"no Auto: one letter", "[<a:]>]", 0, 4},
		{"no Auto: no :", "[<ab]>]", 0, 4},
		{"no Auto: a blank", "[<ab: ]>]", 0, 6},
		{"no Auto: not closed", "[<ab:]", 0, 5},
		{"no Auto: another < first", "[<ab:<cd:]>]", 0, 11},
		{"no Auto: escaped", "[\\<ab:]>]", 0, 6},
		{"an Auto behind an escaped \\", "[\\\\<ab:]>]", 0, 9},
		{"no Auto: code first", "[<`ab:]`>]", 0, 9},
		{"an Auto that begins ahead of it", "<ab:[c>]", 4, 7},

		{"the link within a line of text", "see [the *page*](a) or [b](c)", 4, 15},
		{"runes of more bytes", "\u20ac[\u00e9\U0001f600]", 3, 10},
		{"bytes of no rune", "[\xff\x80\xe2]", 0, 4},
		{"bytes that are signs and 128", "[\xdb\xdd\xdc]", 0, 4},
		{"runes that are signs and 2^8", "[\u015b\u015c\u015d]", 0, 7},
		{"byte 0", "[\x00]", 0, 2},
	} {
		if got, want := closeAt(c.in, c.at), (place{c.want, true}); got != want {
			t.Errorf("P11.1: %s: Close(%q, %d) = %v, want %v", c.name, c.in, c.at, got, want)
		}
	}
}

func TestCloseNone(t *testing.T) {
	for _, c := range []struct {
		name, in string
		at       int
	}{
		{"nothing", "", 0},
		{"[ alone", "[", 0},
		{"] alone", "]", 0},
		{"] ahead of [", "][", 0},
		{"] ahead of [, asked for the [", "][", 1},
		{"not closed", "[a", 0},
		{"only the one within is", "[[a]", 0},
		{"only two of three are", "[[[]]", 0},
		{"an escaped ] alone", "[a\\]", 0},
		{"an escaped ] behind an escaped \\", "[\\\\\\]", 0},
		{"a \\ last", "[\\", 0},
		{"only ] within code", "[`]`", 0},
		{"only ] within code, though a link ends there", "[`a](b) c`", 0},
		{"only ] within code behind a run that no other closes", "[```a`]`", 0},
		{"only ] within an Auto", "[<ab:]>", 0},
		{"a letter", "a]", 0},
		{"a [ further on", "a[b]", 0},
		{"the place behind the [", "[a]", 1},
		{"the ]", "[a]", 2},
		{"the \\ ahead of it", "\\[a]", 0},
		{"a (", "(a)", 0},
		{"a {", "{a}", 0},
		{"a byte that is [ and 128", "\xdba]", 0},
		{"a rune that is [ and 2^8", "\u015ba]", 0},
		{"a rune that is ] and 2^8 closes nothing", "[\u015d", 0},
		{"within a rune", "\u20ac[a]", 1},
		{"the end", "[a]", 3},
		{"past the end", "[a]", 4},
		{"far past the end", "[a]", math.MaxInt},
		{"at 2^32", "[a]", 1 << 32},
		{"just below 0", "[a]", -1},
		{"below 0 by the text's length", "[a]", -3},
		{"far below 0", "[a]", math.MinInt},
		{"below 0 of nothing", "", -1},
		{"past nothing", "", 1},
	} {
		if got := closeAt(c.in, c.at); got != (place{}) {
			t.Errorf("P11.1: %s: Close(%q, %d) = %v, want none", c.name, c.in, c.at, got)
		}
	}
}

func TestDest(t *testing.T) {
	for _, c := range []struct {
		name, in string
		at       int
		text     string
		end      int
	}{
		{"a letter", "(a)", 0, "a", 3},
		{"nothing between", "()", 0, "", 2},
		{"a page", "(http://a.b/c?d=e#f)", 0, "http://a.b/c?d=e#f", 20},
		{"further on", "[a](b) c", 3, "b", 6},
		{"what is behind isn't looked at", "(a)b)", 0, "a", 3},
		{"the second of a text", "(a)(b)", 3, "b", 6},
		{"a ( ahead", "((a)", 1, "a", 4},
		{"an escaped ) within", "(a\\)b)", 0, "a)b", 6},
		{"an escaped ( within", "(a\\(b)", 0, "a(b", 6},
		{"escaped ( and )", "(\\(a\\))", 0, "(a)", 7},
		{"an escaped \\ ahead of the )", "(a\\\\)", 0, "a\\", 5},
		{"an escaped \\ ahead of the ), and a ) further on", "(a\\\\)b)", 0, "a\\", 5},
		{"an escaped \\ and an escaped )", "(a\\\\\\))", 0, "a\\)", 7},
		{"an escaped sign", "(a\\*b)", 0, "a*b", 6},
		{"a \\ ahead of a letter", "(\\a)", 0, "\\a", 4},
		{"a \\ ahead of a Punct from 128 on", "(\\\u2014)", 0, "\\\u2014", 6},
		{"a \\ ahead of it", "\\(a)", 1, "a", 4},
		{"other signs", "(<a>[b]`*_\"'&#:{})", 0, "<a>[b]`*_\"'&#:{}", 18},
		{"what looks like code", "(`a)`", 0, "`a", 4},
		{"what looks like an Auto", "(<ab:)>", 0, "<ab:", 6},
		{"runes of more bytes", "\u20ac(\u00e9\U0001f600)", 3, "\u00e9\U0001f600", 11},
		{"runes that look like blanks", "(\u0085\u2002\u2028)", 0, "\u0085\u2002\u2028", 10},
		{"bytes of no rune", "(\xff\x80)", 0, "\ufffd\ufffd", 4},
		{"a blank without its last byte", "(\xe3\x80)", 0, "\ufffd\ufffd", 4},
		{"a blank's last byte alone", "(\xa0)", 0, "\ufffd", 3},
		{"bytes that are signs and 128", "(\xa8\xa9\xdc)", 0, "\ufffd\ufffd\ufffd", 5},
		{"runes that are signs and 2^8", "(\u0128\u0129\u015c)", 0, "\u0128\u0129\u015c", 8},
		{"byte 0", "(\x00)", 0, "\x00", 3},
	} {
		if got, want := destAt(c.in, c.at), (found{c.text, c.end, true}); got != want {
			t.Errorf("P11.1: %s: Dest(%q, %d) = %#v, want %#v", c.name, c.in, c.at, got, want)
		}
	}
}

func TestDestNone(t *testing.T) {
	for _, c := range []struct {
		name, in string
		at       int
	}{
		{"nothing", "", 0},
		{"( alone", "(", 0},
		{") alone", ")", 0},
		{"not closed", "(a", 0},
		{"an escaped ) alone", "(a\\)", 0},
		{"an escaped ) behind an escaped \\", "(\\\\\\)", 0},
		{"a \\ last", "(a\\", 0},
		{"a blank", "(a b)", 0},
		{"a blank first", "( a)", 0},
		{"a blank last", "(a )", 0},
		{"a blank alone", "( )", 0},
		{"a \\ ahead of a blank", "(a\\ b)", 0},
		{"a tab", "(a\tb)", 0},
		{"an end of a line", "(a\nb)", 0},
		{"byte 13", "(a\r)", 0},
		{"a blank of two bytes", "(a\u00a0)", 0},
		{"a blank of three bytes", "(\u3000)", 0},
		{"another blank of three bytes", "(a\u2003b)", 0},
		{"another (", "(a(b)", 0},
		{"another ( and )", "(a(b))", 0},
		{"another ( first", "((a)", 0},
		{"another ( behind an escaped \\", "(\\\\(a)", 0},
		{"a letter", "a)", 0},
		{"a ( further on", "a(b)", 0},
		{"the place behind the (", "(a)", 1},
		{"the )", "(a)", 2},
		{"the \\ ahead of it", "\\(a)", 0},
		{"a [", "[a]", 0},
		{"a <", "<a>", 0},
		{"a byte that is ( and 128", "\xa8a)", 0},
		{"a rune that is ( and 2^8", "\u0128a)", 0},
		{"a rune that is ) and 2^8 closes nothing", "(\u0129", 0},
		{"within a rune", "\u20ac(a)", 1},
		{"the end", "(a)", 3},
		{"past the end", "(a)", 4},
		{"far past the end", "(a)", math.MaxInt},
		{"at 2^32", "(a)", 1 << 32},
		{"just below 0", "(a)", -1},
		{"below 0 by the text's length", "(a)", -3},
		{"far below 0", "(a)", math.MinInt},
		{"below 0 of nothing", "", -1},
		{"past nothing", "", 1},
	} {
		if got := destAt(c.in, c.at); got != (found{}) {
			t.Errorf("P11.1: %s: Dest(%q, %d) = %#v, want none", c.name, c.in, c.at, got)
		}
	}
}

func TestSafe(t *testing.T) {
	for _, s := range []string{
		"", "a", "a#b", " #a", "\\#a", "\x00#", "http://a.b", "ftp:a", "mailto:a@b",
		":", ":javascript", ":data:", ":#",
		"javascript", "data", "JavaScript", "/javascript", "javascript/a", "data#a",
		"xjavascript:a", "javascriptx:a", "javascrip:a", "avascript:a", "javacript:a", "scriptjava:a", "javajavascriptscript:a",
		"xdata:a", "datax:a", "dat:a", "ata:a", "daata:a", "metadata:a", "datadata:a", "javascriptdata:a",
		"a:javascript:b", "ab:data:c", "1a:data:", "http:javascript", "a/data:b",
		"script:a", "java:a", "vbscript:a", "file:a", "blob:a",
		"java\u017fcript:a", "d\u0430ta:a", "\uff44ata:a", "javascript\uff1aa", "data\u2236a", "data;a",
		"java&#115;cript:a", "data&colon;a",
	} {
		if !Safe(s) {
			t.Errorf("P11.1: Safe(%q): false", s)
		}
	}
	for _, s := range []string{
		"#", "#a", "##", "# a", "#:", "#http:a", "#\xff",
		"javascript:", "javascript:a", "data:", "data:a", "data::", "data:a:b", "javascript:#",
		"JavaScript:a", "JAVASCRIPT:", "jAvAsCrIpT:", "Data:", "DATA:", "dATA:",
		" javascript:a", "\tdata:", "java script:", "java\nscript:", "java\r\nscript:", "javascript :", "d a t a :",
		"\x00javascript:", "\x01data:", "data\x7f:", "1data:", "d1a2t3a4:", "java-script:", "java/script:", "//data:", "da#ta:", " #data:",
		"\u00e9data:", "java\u017fscript:", "data\u0430:", "java\u00a0\u2003\u3000script:", "\ufeffdata:", "d\ufffdata:",
		"\xffdata:", "java\x80\xe2\x82script:", "da\xf4ta:", "\xc4data:",
		"@data:", "[data:", "`data:", "{data:", "da\u212ata:",
	} {
		if Safe(s) {
			t.Errorf("P11.1: Safe(%q): true", s)
		}
	}
}

// Every rune where it bears on an answer: alone between the signs, and within a scheme.
func TestEveryRune(t *testing.T) {
	for r := rune(0); r <= utf8.MaxRune; r++ {
		if !utf8.ValidRune(r) {
			continue
		}
		checkAutoOf(t, r)
		checkCloseOf(t, r)
		checkDestOf(t, r)
		checkSafeOf(t, r)
	}
}

// blank tells whether r is of the runes that chapter 2 names.
func blank(r rune) bool {
	return strings.ContainsRune("\t\n\v\f\r \u00a0\u2003\u3000", r)
}

func checkAutoOf(t *testing.T, r rune) {
	c := string(r)
	s := "<ab:" + c + ">"
	want := found{"ab:" + c, len(s), true}
	switch {
	case blank(r) || r == '<':
		want = found{}
	case r == '>':
		want = found{"ab:", 5, true}
	}
	if got := autoAt(s, 0); got != want {
		t.Errorf("P11.1: Auto(%q, 0) = %#v, want %#v", s, got, want)
	}
	want = found{"a" + c + ":", 5, true}
	if r < 'a' || r > 'z' {
		want = found{}
	}
	if got := autoAt("<a"+c+":>", 0); got != want {
		t.Errorf("P11.1: Auto(%q, 0) = %#v, want %#v", "<a"+c+":>", got, want)
	}
}

func checkCloseOf(t *testing.T, r rune) {
	c := string(r)
	want := place{1 + len(c), true}
	switch r {
	case '[', '\\':
		want = place{}
	case ']':
		want = place{1, true}
	}
	if got := closeAt("["+c+"]", 0); got != want {
		t.Errorf("P11.1: Close(%q, 0) = %v, want %v", "["+c+"]", got, want)
	}
	if got, want := closeAt("[\\"+c+"]", 0), (place{2 + len(c), true}); got != want {
		t.Errorf("P11.1: Close(%q, 0) = %v, want %v", "[\\"+c+"]", got, want)
	}
}

func checkDestOf(t *testing.T, r rune) {
	c := string(r)
	want := found{c, 2 + len(c), true}
	switch {
	case blank(r) || r == '(' || r == '\\':
		want = found{}
	case r == ')':
		want = found{"", 2, true}
	}
	if got := destAt("("+c+")", 0); got != want {
		t.Errorf("P11.1: Dest(%q, 0) = %#v, want %#v", "("+c+")", got, want)
	}
	want = found{"\\" + c, 3 + len(c), true}
	switch {
	case blank(r):
		want = found{}
	case strings.ContainsRune("!\"#$%&'()*+,-./:;<=>?@[\\]^_`{|}~", r):
		want = found{c, 4, true}
	}
	if got := destAt("(\\"+c+")", 0); got != want {
		t.Errorf("P11.1: Dest(%q, 0) = %#v, want %#v", "(\\"+c+")", got, want)
	}
}

func checkSafeOf(t *testing.T, r rune) {
	c := string(r)
	safe := r >= 'a' && r <= 'z' || r >= 'A' && r <= 'Z' || r == ':'
	for _, s := range []string{"da" + c + "ta:", "java" + c + "script:x"} {
		if Safe(s) != safe {
			t.Errorf("P11.1: Safe(%q): %v", s, !safe)
		}
	}
	if Safe(c) != (r != '#') {
		t.Errorf("P11.1: Safe(%q): %v", c, r == '#')
	}
	// In the place of the :, and of the second letter.
	if Safe("data"+c+"x") != (r != ':') {
		t.Errorf("P11.1: Safe(%q): %v", "data"+c+"x", r == ':')
	}
	if Safe("d"+c+"ta:") != (r != 'a' && r != 'A') {
		t.Errorf("P11.1: Safe(%q): %v", "d"+c+"ta:", r == 'a' || r == 'A')
	}
}

// Schemes of each length up to one that is far too long.
func TestAutoSchemes(t *testing.T) {
	for n := range 300 {
		s := "<" + strings.Repeat("s", n) + ":>"
		want := found{}
		if n >= 2 && n <= 12 {
			want = found{s[1 : n+2], n + 3, true}
		}
		if got := autoAt(s, 0); got != want {
			t.Errorf("P11.1: Auto of a scheme of %d: %#v, want %#v", n, got, want)
		}
	}
}

// Texts in which looking to the end at each place would not end soon.
func TestLongTexts(t *testing.T) {
	const n = 1 << 20
	a := strings.Repeat("a", n)
	if got := autoAt("<ab:"+a+">", 0); got != (found{"ab:" + a, n + 5, true}) {
		t.Errorf("P11.1: Auto of a long text: %d, %v", got.end, got.ok)
	}
	if got := destAt("("+a+")", 0); got != (found{a, n + 2, true}) {
		t.Errorf("P11.1: Dest of a long text: %d, %v", got.end, got.ok)
	}
	if Safe(strings.Repeat("1", n)+"data:"+a) || !Safe(a+":") || !Safe(a) || Safe("d"+strings.Repeat("\u3000", n)+"ata:") {
		t.Error("P11.1: Safe of a long text")
	}
	for _, s := range []string{"<ab", "<ab:", "<abcdefghijklm", "(a", "()", "[]"} {
		long := strings.Repeat(s, n/4)
		for at := range len(long) {
			Auto(long, at)
			Dest(long, at)
			if long[at] == '[' && closeAt(long, at) != (place{at + 1, true}) {
				t.Fatalf("P11.1: Close at %d of many", at)
			}
		}
	}
}

func TestCloseLongTexts(t *testing.T) {
	const n = 1 << 20
	var rising strings.Builder
	for count := range 700 {
		rising.WriteString(strings.Repeat("`", count+1) + "a")
	}
	for _, c := range []struct {
		name, in string
		want     place
	}{
		{"deep", strings.Repeat("[", n) + strings.Repeat("]", n), place{2*n - 1, true}},
		{"deep, and one isn't closed", strings.Repeat("[", n) + strings.Repeat("]", n-1), place{}},
		{"many within", "[" + strings.Repeat("[]", n) + "]", place{2*n + 1, true}},
		{"many escaped ones", "[" + strings.Repeat("\\]", n) + "]", place{2*n + 1, true}},
		{"a long run of `", "[" + strings.Repeat("`", n) + "]", place{n + 1, true}},
		{"runs of ` of lengths that never come twice", "[" + rising.String() + "]", place{rising.Len() + 1, true}},
		{"much code", "[" + strings.Repeat("`]`", n) + "]", place{3*n + 1, true}},
		{"many Autos", "[" + strings.Repeat("<ab:]>", n) + "]", place{6*n + 1, true}},
		{"many that are nearly Autos", "[" + strings.Repeat("<ab:", n) + "]", place{4*n + 1, true}},
		{"many < and no :", "[" + strings.Repeat("<ab", n) + "]", place{3*n + 1, true}},
	} {
		if got := closeAt(c.in, 0); got != c.want {
			t.Errorf("P11.1: %s: Close = %v, want %v", c.name, got, c.want)
		}
	}
}

func TestAnswersAreNewMemory(t *testing.T) {
	whole := []byte("<ab:cdef> (ab:cdef) in a longer text")
	was := slices.Clone(whole)
	s := unsafe.String(unsafe.SliceData(whole), len(whole))
	auto, _, _ := Auto(s, 0)
	dest, _, _ := Dest(s, 10)
	Close(s, 0)
	Safe(s)
	if !slices.Equal(whole, was) {
		t.Errorf("R2: the text is now %q", whole)
	}
	for i := range whole {
		whole[i] = 'x'
	}
	if auto != "ab:cdef" || dest != "ab:cdef" {
		t.Errorf("R2: Auto gave %q, Dest %q: they share memory with the text", auto, dest)
	}
}
