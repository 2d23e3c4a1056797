package attr

import (
	"regexp"
	"slices"
	"strings"
	"testing"
	"unsafe"

	"selvedge/api"
)

// keyed gives a Pair of a key and its text, alone one of a key alone.
func keyed(key, text string) Pair { return Pair{key, text} }
func alone(key string) Pair       { return Pair{key, true} }

func TestPairs(t *testing.T) {
	for _, c := range []struct {
		name, in, lang string
		want           []Pair
	}{
		{"nothing", "", "", nil},
		{"blanks and tabs alone", " \t  \t", "", nil},
		{"a language", "go", "go", nil},
		{"blanks and tabs around it", "\t go \t", "go", nil},
		{"a language and a key", "go append", "go", []Pair{alone("append")}},
		{"many blanks and tabs between", "go \t\t  x\t y", "go", []Pair{alone("x"), alone("y")}},
		{"append first", "append", "", []Pair{alone("append")}},
		{"noline first", " noline x", "", []Pair{alone("noline"), alone("x")}},
		{"append with a text first", "append=1", "", []Pair{keyed("append", "1")}},
		{"append, but more", "appendx", "appendx", nil},
		{"noline, but less", "nolin", "nolin", nil},
		{"append in large letters", "Append noline", "Append", []Pair{alone("noline")}},
		{"another key first is a language", "name", "name", nil},
		{"the language once more", "go go", "go", []Pair{alone("go")}},
		{"a language by any signs", "C++/11!\"\\ x", "C++/11!\"\\", []Pair{alone("x")}},
		{"a language of a quote", "\" x", "\"", []Pair{alone("x")}},
		{"a quote holds no language together", "\"a b", "\"a", []Pair{alone("b")}},
		{"a language of other blanks", "\u00a0\n\r\u3000 x", "\u00a0\n\r\u3000", []Pair{alone("x")}},
		{"a language of bytes of no rune", "\xff\x00 x", "\xff\x00", []Pair{alone("x")}},
		{"a text first", "a=b", "", []Pair{keyed("a", "b")}},
		{"texts and keys in order", "go z=1 b a=2 y=\"3\"", "go", []Pair{keyed("z", "1"), alone("b"), keyed("a", "2"), keyed("y", "3")}},
		{"all letters of a key", "abcdefghijklmnopqrstuvwxyz=1", "", []Pair{keyed("abcdefghijklmnopqrstuvwxyz", "1")}},
		{"a text true is no key alone", "a=true", "", []Pair{keyed("a", "true")}},
		{"signs in a bare text", "a=!#$%&'()*+,-./:;<>?@[]^_`{|}~", "", []Pair{keyed("a", "!#$%&'()*+,-./:;<>?@[]^_`{|}~")}},
		{"runes in a bare text", "a=\u00e9\u2002\U0001f600", "", []Pair{keyed("a", "\u00e9\u2002\U0001f600")}},
		{"bytes of no rune in a bare text", "a=\xff\xe2\x82", "", []Pair{keyed("a", "\xff\xe2\x82")}},
		{"byte 0 in a bare text", "a=\x00\x01\x7f", "", []Pair{keyed("a", "\x00\x01\x7f")}},
		{"a quoted text", "a=\"b\"", "", []Pair{keyed("a", "b")}},
		{"an empty quoted text", "a=\"\" b", "", []Pair{keyed("a", ""), alone("b")}},
		{"blanks and tabs in a quoted text", "go a=\" b \t c \" d", "go", []Pair{keyed("a", " b \t c "), alone("d")}},
		{"ends of lines and other blanks in one", "a=\"\n\r\u00a0\"", "", []Pair{keyed("a", "\n\r\u00a0")}},
		{"= in a quoted text", "a=\"b=c\"", "", []Pair{keyed("a", "b=c")}},
		{"what looks like words in one", "a=\"b c=d e\" f", "", []Pair{keyed("a", "b c=d e"), alone("f")}},
		{"a quote in a quoted text", `a="\""`, "", []Pair{keyed("a", `"`)}},
		{"\\ in a quoted text", `a="\\"`, "", []Pair{keyed("a", `\`)}},
		{"\\ and a quote in one", `a="\\\"b\"\\" c`, "", []Pair{keyed("a", `\"b"\`), alone("c")}},
		{"\\ ahead of the last quote, and the end", `a="b\\" c="d"`, "", []Pair{keyed("a", `b\`), keyed("c", "d")}},
		{"bytes of no rune in a quoted text", "a=\"\xff\xe2\x82\"", "", []Pair{keyed("a", "\xff\xe2\x82")}},
		{"U+FFFD stays itself", "a=\"\ufffd\" b=\ufffd", "", []Pair{keyed("a", "\ufffd"), keyed("b", "\ufffd")}},
		{"keys that begin alike", "go a aa aaa=a", "go", []Pair{alone("a"), alone("aa"), keyed("aaa", "a")}},
	} {
		lang, l, ok := Pairs(c.in)
		if lang != c.lang || !slices.Equal(l, c.want) || !ok {
			t.Errorf("P5.1: %s: Pairs(%q) = %q, %v, %v, want %q, %v", c.name, c.in, lang, l, ok, c.lang, c.want)
		}
	}
}

func TestPairsNone(t *testing.T) {
	for _, c := range []struct{ name, in string }{
		{"no text", "a="},
		{"no text, then a word", "a= b"},
		{"no text, then a quoted one", "a= \"b\""},
		{"no key", "=b"},
		{"no key, and a quoted text", "=\"b\""},
		{"= alone", "="},
		{"= alone behind a language", "go ="},
		{"a blank ahead of =", "go a =b"},
		{"a large letter", "go A"},
		{"a large letter within", "aB=c"},
		{"a number", "go x1"},
		{"the sign ahead of a", "go a`"},
		{"the sign behind z", "go z{=b"},
		{"a hyphen", "go no-line"},
		{"a letter beyond z", "go \u00e9"},
		{"another blank in a key", "go a\u00a0b"},
		{"a byte of no rune in a key", "go a\xff"},
		{"an end of a line behind a key", "go a\n"},
		{"another blank in a bare text", "a=b\u00a0c"},
		{"an end of a line in a bare text", "a=b\nc"},
		{"byte 13 behind a bare text", "a=b\r"},
		{"byte 11 in a bare text", "a=\v"},
		{"U+3000 behind a bare text", "a=b\u3000"},
		{"a second =", "a=b=c"},
		{"two =", "a==b"},
		{"\\ in a bare text", "a=b\\c"},
		{"\\ and a quote in a bare text", "a=b\\\""},
		{"a quote in a bare text", "a=b\"c"},
		{"a quote last in a bare text", "a=b\""},
		{"no last quote", "a=\"b"},
		{"a first quote alone", "a=\""},
		{"no last quote, and words", "a=\"b c d"},
		{"a last quote that stands for itself", `a="b\"`},
		{"\\ last", `a="b\`},
		{"\\ ahead of a letter", `a="\n"`},
		{"\\ ahead of a blank", `a="\ "`},
		{"\\ ahead of a rune", "a=\"\\\u00e9\""},
		{"\\ ahead of a byte of no rune", "a=\"\\\xff\""},
		{"a letter behind a quoted text", `a="b"c`},
		{"a quote behind a quoted text", `a="b""`},
		{"two quoted texts at one place", `a="b""c"`},
		{"a pair at a quoted text", `a="b"c=d`},
		{"another blank behind a quoted text", "a=\"b\"\u00a0"},
		{"an end of a line behind a quoted text", "a=\"b\"\n"},
		{"a quoted word", "go \"a\""},
		{"a quoted key", `"a"=b`},
		{"a quote that holds no language together", "\"a b\""},
		{"a key twice", "go a a"},
		{"a key twice, with texts", "a=b a=c"},
		{"a key twice, with one text", "a=b c a=b"},
		{"a key twice, alone and with a text", "go a a=b"},
		{"append twice", "append append"},
		{"a key far behind", "z=\"a\" b c d e f z"},
		{"wrong behind what is right", "go a=b c=\"d\" e="},
	} {
		if lang, l, ok := Pairs(c.in); lang != "" || len(l) != 0 || ok {
			t.Errorf("P5.1: %s: Pairs(%q) = %q, %v, %v, want none", c.name, c.in, lang, l, ok)
		}
	}
}

type worded string

func TestTextAndMust(t *testing.T) {
	for _, s := range []string{"", "a", "a b", "\xff\x00", "true"} {
		if got, ok := Text(s); got != s || !ok {
			t.Errorf("P5.1: Text(%q) = %q, %v", s, got, ok)
		}
		if got := Must(s); got != s {
			t.Errorf("P5.1: Must(%q) = %q", s, got)
		}
	}
	s, none := "a", (*string)(nil)
	for _, v := range []any{nil, true, false, 0, 5, 'a', byte('a'), 1.5, []byte("a"), []rune{97}, []string{"a"}, &s, none, worded("a"), Pair{"a", "b"}, error(api.ErrArg), func() string { return "a" }, map[string]int{"a": 1}} {
		if got, ok := Text(v); got != "" || ok {
			t.Errorf("P5.1: Text(%T) = %q, %v, want false", v, got, ok)
		}
		if !panics(func() { Must(v) }) {
			t.Errorf("P5.1: Must(%T) does not panic", v)
		}
	}
	_, l, _ := Pairs("a=b append")
	if Must(l[0].Value) != "b" || !panics(func() { Must(l[1].Value) }) {
		t.Errorf("P5.1: Must of what Pairs gives: %v", l)
	}
}

// panics tells whether f does.
func panics(f func()) (did bool) {
	defer func() { did = recover() != nil }()
	f()
	return false
}

func TestRead(t *testing.T) {
	full := strings.Repeat("a", 60)
	for _, c := range []struct {
		name, in string
		want     api.Attr
	}{
		{"nothing", "", api.Attr{}},
		{"blanks and tabs alone", "\t ", api.Attr{}},
		{"a language", "go", api.Attr{Lang: "go"}},
		{"append", "go append", api.Attr{Lang: "go", Append: true}},
		{"append alone", "append", api.Attr{Append: true}},
		{"noline alone", "noline", api.Attr{NoLine: true}},
		{"both", "append noline", api.Attr{Append: true, NoLine: true}},
		{"both, turned round", " noline\tappend ", api.Attr{Append: true, NoLine: true}},
		{"a name", "name=a", api.Attr{Name: "a"}},
		{"a quoted name", "go name=\"a b\"", api.Attr{Lang: "go", Name: "a b"}},
		{"a name with other blanks within", "name=\"a\u00a0b\"", api.Attr{Name: "a\u00a0b"}},
		{"the longest name", "name=" + full, api.Attr{Name: full}},
		{"a file", "c file=src/a.c", api.Attr{Lang: "c", File: "src/a.c"}},
		{"a quoted file", "file=\"a b\"", api.Attr{File: "a b"}},
		{"the longest file", "file=" + full, api.Attr{File: full}},
		{"a comment", "comment=#", api.Attr{Style: "#"}},
		{"a comment of four bytes", "comment=<!--", api.Attr{Style: "<!--"}},
		{"the least and the greatest byte of one", "comment=!~", api.Attr{Style: "!~"}},
		{"a comment of a quote and \\", `comment="\"\\"`, api.Attr{Style: `"\`}},
		{"a comment of =", `comment="="`, api.Attr{Style: "="}},
		{"all in order", "go name=a comment=// append noline", api.Attr{Lang: "go", Name: "a", Style: "//", Append: true, NoLine: true}},
		{"all in another order", "noline comment=\"//\" append file=\"a\"", api.Attr{File: "a", Style: "//", Append: true, NoLine: true}},
		{"a key as the language", "name", api.Attr{Lang: "name"}},
		{"a language by any signs", "\"\\\xff\n file=f", api.Attr{Lang: "\"\\\xff\n", File: "f"}},
		{"a name by many signs", "name=a:b/c.d(e)*'`", api.Attr{Name: "a:b/c.d(e)*'`"}},
	} {
		if got, ok := Read(c.in); got != c.want || !ok {
			t.Errorf("P5.2: %s: Read(%q) = %+v, %v, want %+v", c.name, c.in, got, ok, c.want)
		}
	}
}

func TestReadNone(t *testing.T) {
	long := strings.Repeat("a", 61)
	for _, c := range []struct{ name, in string }{
		{"no Pairs", "go name="},
		{"a name twice", "go name=a name=b"},
		{"append twice", "append append"},
		{"another key", "go x"},
		{"another key with a text", "go lang=x"},
		{"a key that begins as one", "go names=a"},
		{"a key that is a part of one", "go app"},
		{"the language once more", "go go"},
		{"another key behind what is right", "go name=a append x=y"},
		{"a name alone", "go name"},
		{"a file alone", "go file"},
		{"a comment alone", "go comment"},
		{"append with a text", "go append=1"},
		{"append with true", "go append=true"},
		{"append with nothing", "append=\"\""},
		{"noline with a text", "noline=noline"},
		{"a name and a file", "name=a file=b"},
		{"a file and a name", "file=a name=a"},
		{"a name and a file, far apart", "go name=a append comment=# file=b"},
		{"an empty name", "name=\"\""},
		{"an empty file", "file=\"\""},
		{"an empty name and a file", "name=\"\" file=a"},
		{"a name and an empty file", "name=a file=\"\""},
		{"a name too long", "name=" + long},
		{"a file too long", "file=" + long},
		{"a name with a blank first", "name=\" a\""},
		{"a file with a blank last", "file=\"a \""},
		{"a name with a sign of references", "name=a<"},
		{"a file with a sign of marks", "file=a#b"},
		{"a name with \\", `name="a\\b"`},
		{"a file with a quote", `file="a\"b"`},
		{"a name of bytes of no rune", "name=\xff"},
		{"a file with an end of a line", "file=\"a\nb\""},
		{"an empty comment", "comment=\"\""},
		{"a comment of five bytes", "comment=abcde"},
		{"a comment with a blank", "comment=\"a b\""},
		{"a comment with a tab", "comment=\"\t\""},
		{"a comment with a byte behind ~", "comment=\x7f"},
		{"a comment with a byte below 32", "comment=\x1f"},
		{"a comment with a rune", "comment=\u00e9"},
		{"a comment of bytes of no rune", "comment=\xff"},
	} {
		if got, ok := Read(c.in); got != (api.Attr{}) || ok {
			t.Errorf("P5.2: %s: Read(%q) = %+v, %v, want none", c.name, c.in, got, ok)
		}
	}
}

func TestName(t *testing.T) {
	full := strings.Repeat("\u4e2d", 20)
	for _, s := range []string{"a", "Z", "0", "a b", "a\u00a0b", "a\u3000\u2003b", "a.go", "src/a.go", "a:b", "=", "a=b", "!", "~", "\x7f", "\u0080", "\u0085", "\u2028", "\ufffd", "\U0010ffff", "{}()'`$%&*+,-/;?@^_|~", strings.Repeat("a", 59), strings.Repeat("a", 60), full} {
		if !Name(s) {
			t.Errorf("P5.2: Name(%q) = false", s)
		}
	}
	for _, s := range []string{"", " ", "\u00a0", " a", "a ", "\u00a0a", "a\u00a0", "\u2003a", "a\u3000", "\ta", "a\t", "a\tb", "a\nb", "\n", "\r", "\v", "\x00", "a\x00b", "a\x1fb", "\x1f", strings.Repeat("a", 61), full + "a", "a" + full, strings.Repeat("a", 1<<20), "\xff", "a\xffb", "\x80", "a\xe2\x82", "\xed\xa0\x80", "\xf4\x90\x80\x80", "\xc0\x80"} {
		if Name(s) {
			t.Errorf("P5.2: Name(%q) = true", s)
		}
	}
	for _, sign := range []string{"<", ">", "[", "]", "#", "\"", "\\"} {
		for _, s := range []string{sign, "a" + sign, sign + "a", "a" + sign + "b", sign + sign} {
			if Name(s) {
				t.Errorf("P5.2: Name(%q) = true", s)
			}
		}
	}
}

// Name asks each rune alone, but for blanks: those it asks at both ends.
func TestNameOfEveryRune(t *testing.T) {
	for r := rune(0); r <= 0x3100; r++ {
		within := r >= 32 && !strings.ContainsRune("<>[]#\"\\", r)
		around := within && !strings.ContainsRune(" \u00a0\u2003\u3000", r)
		s := string(r)
		if Name("a"+s+"b") != within || Name(s) != around || Name(s+"a") != around || Name("a"+s) != around {
			t.Errorf("P5.2: Name with %#x: within %v, alone %v, first %v, last %v", r, Name("a"+s+"b"), Name(s), Name(s+"a"), Name("a"+s))
		}
	}
}

func TestWrite(t *testing.T) {
	for _, c := range []struct {
		name string
		a    api.Attr
		want string
	}{
		{"nothing", api.Attr{}, ""},
		{"a language", api.Attr{Lang: "go"}, "go"},
		{"a language by any signs", api.Attr{Lang: "\"\\\xff\n\u00a0"}, "\"\\\xff\n\u00a0"},
		{"a key as the language", api.Attr{Lang: "name", Name: "a"}, "name name=a"},
		{"a name", api.Attr{Name: "a"}, "name=a"},
		{"a name with a blank", api.Attr{Name: "a b"}, "name=\"a b\""},
		{"a name with another blank", api.Attr{Name: "a\u00a0b"}, "name=\"a\u00a0b\""},
		{"a name with =", api.Attr{Name: "a=b"}, "name=\"a=b\""},
		{"a name with other signs", api.Attr{Name: "a:b/c'`"}, "name=a:b/c'`"},
		{"a file", api.Attr{File: "a.go"}, "file=a.go"},
		{"a file with blanks", api.Attr{File: "a  b c"}, "file=\"a  b c\""},
		{"a comment", api.Attr{Style: "//"}, "comment=//"},
		{"a comment of a quote", api.Attr{Style: `"`}, `comment="\""`},
		{"a comment of \\", api.Attr{Style: `\\`}, `comment="\\\\"`},
		{"a comment of =", api.Attr{Style: "=="}, `comment="=="`},
		{"append", api.Attr{Append: true}, "append"},
		{"noline", api.Attr{NoLine: true}, "noline"},
		{"all of a name", api.Attr{Lang: "go", Name: "a", Style: "#", Append: true, NoLine: true}, "go name=a comment=# append noline"},
		{"all of a file", api.Attr{Lang: "c", File: "a b", Style: "\"=\\~", Append: true, NoLine: true}, `c file="a b" comment="\"=\\~" append noline`},
	} {
		if got := Write(c.a); got != c.want {
			t.Errorf("P5.2: %s: Write(%+v) = %q, want %q", c.name, c.a, got, c.want)
		}
		if back, ok := Read(Write(c.a)); back != c.a || !ok {
			t.Errorf("P5.3: %s: Read(Write(%+v)) = %+v, %v", c.name, c.a, back, ok)
		}
	}
}

// Of an Attr that no info says Write gives nothing, whatever else is in it.
func TestWriteNone(t *testing.T) {
	for _, c := range []struct {
		name string
		a    api.Attr
	}{
		{"a language of two words", api.Attr{Lang: "a b"}},
		{"a language that says a pair", api.Attr{Lang: "go append"}},
		{"a language with a blank first", api.Attr{Lang: " a"}},
		{"a language with a tab last", api.Attr{Lang: "a\t"}},
		{"a blank as the language", api.Attr{Lang: " "}},
		{"a language with =", api.Attr{Lang: "a=b"}},
		{"= as the language", api.Attr{Lang: "="}},
		{"a pair as the language", api.Attr{Lang: "name=a"}},
		{"append as the language", api.Attr{Lang: "append"}},
		{"append as the language, and append", api.Attr{Lang: "append", Append: true}},
		{"noline as the language", api.Attr{Lang: "noline", Append: true}},
		{"a name and a file", api.Attr{Name: "a", File: "b"}},
		{"no name", api.Attr{Name: " "}},
		{"a name with a blank last", api.Attr{Lang: "go", Name: "a "}},
		{"a name with a quote", api.Attr{Name: "a\"b"}},
		{"a name with \\", api.Attr{Name: "a\\b"}},
		{"a name that says a pair", api.Attr{Name: "a\" append x=\""}},
		{"a name too long", api.Attr{Name: strings.Repeat("a", 61)}},
		{"a name with an end of a line", api.Attr{Name: "a\nb"}},
		{"no file", api.Attr{File: "a>b"}},
		{"a file too long", api.Attr{File: strings.Repeat("\u4e2d", 21)}},
		{"a file of bytes of no rune", api.Attr{File: "\xff"}},
		{"a comment of five bytes", api.Attr{Style: "abcde"}},
		{"a blank as the comment", api.Attr{Name: "a", Style: " "}},
		{"a comment with a tab", api.Attr{Style: "#\t"}},
		{"a comment with a rune", api.Attr{Style: "\u00e9"}},
		{"a comment with byte 127", api.Attr{Style: "\x7f", NoLine: true}},
	} {
		if got := Write(c.a); got != "" {
			t.Errorf("P5.2: %s: Write(%+v) = %q, want nothing", c.name, c.a, got)
		}
	}
}

var (
	langWord = regexp.MustCompile("^[^ \t=]+")
	onePair  = regexp.MustCompile("^([a-z]+)(?:(=)(?:([^\t\n\v\f\r \u00a0\u2003\u3000\"=\\\\]+)|\"((?:[^\"\\\\]|\\\\[\"\\\\])*)\"))?(?:[ \t]+|$)")
	escaped  = regexp.MustCompile(`\\(.)`)
)

// paired gives what Pairs must, by what each word of the whole info looks like.
func paired(info string) (string, []Pair, bool) {
	s := strings.Trim(info, " \t")
	lang := langWord.FindString(s)
	rest := s[len(lang):]
	if lang == "append" || lang == "noline" || strings.HasPrefix(rest, "=") {
		lang, rest = "", s
	}
	var l []Pair
	for rest = strings.TrimLeft(rest, " \t"); rest != ""; {
		m := onePair.FindStringSubmatch(rest)
		if m == nil || slices.ContainsFunc(l, func(p Pair) bool { return p.Key == m[1] }) {
			return "", nil, false
		}
		p := alone(m[1])
		if m[2] != "" {
			p = keyed(m[1], m[3]+escaped.ReplaceAllString(m[4], "$1"))
		}
		l, rest = append(l, p), rest[len(m[0]):]
	}
	return lang, l, true
}

// Every text of up to seven bytes out of a letter, a blank, =, a quote and \, alone and behind others, held against what it looks like.
func TestEveryShortInfo(t *testing.T) {
	level := []string{""}
	for range 8 {
		var next []string
		for _, s := range level {
			for _, info := range []string{s, "g\t" + s, "append a=" + s} {
				lang, want, wantOK := paired(info)
				if got, l, ok := Pairs(info); got != lang || !slices.Equal(l, want) || ok != wantOK {
					t.Fatalf("P5.1: Pairs(%q) = %q, %v, %v, want %q, %v, %v", info, got, l, ok, lang, want, wantOK)
				}
			}
			next = append(next, s+"a", s+" ", s+"=", s+"\"", s+"\\")
		}
		level = next
	}
}

var (
	rightName  = regexp.MustCompile("^[^\x00-\x1f<>\\[\\]#\"\\\\]+$")
	rightLang  = regexp.MustCompile("^[^ \t=]*$")
	rightStyle = regexp.MustCompile("^[!-~]{0,4}$")
)

// allowed tells whether a is Read of any info, by what each of its fields looks like.
func allowed(a api.Attr) bool {
	for _, s := range []string{a.Name, a.File} {
		if s != "" && (!rightName.MatchString(s) || len(s) > 60 || s != strings.Trim(s, " \u00a0") || s != strings.ToValidUTF8(s, "")) {
			return false
		}
	}
	return rightLang.MatchString(a.Lang) && a.Lang != "append" && a.Lang != "noline" && rightStyle.MatchString(a.Style) && (a.Name == "" || a.File == "")
}

// Every Attr out of a few values of each field: back as it was, or nothing where it can't be.
func TestReadOfWrite(t *testing.T) {
	names := []string{"", "a", "a b", "x=y", "a\u00a0b", "append", "\u4e2d", " a", "a\u00a0", "a\"", "\\", "a#1", "\xff", strings.Repeat("a", 60), strings.Repeat("a", 61)}
	n := 0
	for _, lang := range []string{"", "go", "c++", "\"", "\\\"", "\xff", "\n", "name", "append", "noline", "a=b", "a b", "a\t"} {
		for _, name := range names {
			for _, file := range names {
				for _, style := range []string{"", "#", "\"=\\'", "\\", "=", "a b", "\u00e9", "#####"} {
					for flags := range 4 {
						a := api.Attr{Lang: lang, Name: name, File: file, Style: style, Append: flags&1 > 0, NoLine: flags&2 > 0}
						s := Write(a)
						back, ok := Read(s)
						if good := allowed(a); good && (!ok || back != a) || !good && s != "" {
							t.Fatalf("P5.2, P5.3: Write(%+v) = %q, back %+v, %v", a, s, back, ok)
						}
						n++
					}
				}
			}
		}
	}
	if n != 13*15*15*8*4 {
		t.Errorf("P5.3: only %d were asked", n)
	}
}

// Every row of up to four of some words, held against what each word does.
func TestReadOfEveryRowOfWords(t *testing.T) {
	words := []string{"go", "name=a", "name=\"b c\"", "file=f", "file=\" \"", "comment=#", "comment=abcde", "append", "noline", "noline=x"}
	rows := [][]string{nil}
	for range 5 {
		var next [][]string
		for _, row := range rows {
			info := strings.Join(row, "\t ")
			want, wantOK := said(row)
			got, ok := Read(info)
			if got != want || ok != wantOK {
				t.Fatalf("P5.2: Read(%q) = %+v, %v, want %+v, %v", info, got, ok, want, wantOK)
			}
			if back, ok := Read(Write(got)); back != got || !ok {
				t.Fatalf("P5.3: Read(Write(%+v)) = %+v, %v", got, back, ok)
			}
			for _, w := range words {
				next = append(next, append(slices.Clone(row), w))
			}
		}
		rows = next
	}
}

// said gives what Read must of a row of words: each word that is right says its thing, once.
func said(row []string) (api.Attr, bool) {
	var a api.Attr
	for i, w := range row {
		was := a
		switch w {
		case "go":
			if i > 0 {
				return api.Attr{}, false
			}
			a.Lang = "go"
		case "name=a", "name=\"b c\"":
			a.Name += strings.Trim(w[5:], "\"")
		case "file=f":
			a.File += "f"
		case "comment=#":
			a.Style += "#"
		case "append":
			a.Append = true
		case "noline":
			a.NoLine = true
		}
		twice := was.Name != "" && a.Name != was.Name || was.File != "" && a.File != was.File || was.Style != "" && a.Style != was.Style
		if a == was || twice || a.Name != "" && a.File != "" {
			return api.Attr{}, false
		}
	}
	return a, true
}

func TestLongTexts(t *testing.T) {
	const n = 1 << 20
	blanks, signs := strings.Repeat(" \t", n), strings.Repeat("\"", n)
	if lang, l, ok := Pairs(blanks + "go" + blanks + "a" + blanks); lang != "go" || !slices.Equal(l, []Pair{alone("a")}) || !ok {
		t.Error("P5.1: Pairs of long gaps")
	}
	if lang, l, ok := Pairs(signs); lang != signs || len(l) != 0 || !ok {
		t.Error("P5.1: Pairs of a long language")
	}
	if _, l, ok := Pairs("a=\"" + strings.Repeat(`\"`, n) + "\""); !slices.Equal(l, []Pair{keyed("a", signs)}) || !ok {
		t.Error("P5.1: Pairs of a long quoted text")
	}
	if _, _, ok := Pairs("a=" + signs); ok {
		t.Error("P5.1: Pairs of many quotes")
	}
	if a := (api.Attr{Lang: signs}); Write(a) != signs {
		t.Error("P5.2: Write of a long language")
	}
	if Write(api.Attr{Name: signs}) != "" || Write(api.Attr{Style: signs}) != "" || Write(api.Attr{Lang: blanks}) != "" {
		t.Error("P5.2: Write of long texts that can't be")
	}
}

// So many keys that to hold each against each would not end in good time.
func TestManyKeys(t *testing.T) {
	var info strings.Builder
	const n = 1 << 18
	for i := range n {
		info.WriteByte(' ')
		for k := range 6 {
			info.WriteByte('a' + byte(i>>(3*k)&7))
		}
	}
	if lang, l, ok := Pairs("go" + info.String()); lang != "go" || len(l) != n || !ok {
		t.Errorf("P5.1: Pairs of many keys: %d, %v", len(l), ok)
	}
	if _, l, ok := Pairs("go" + info.String() + " aaaaaa=x"); len(l) != 0 || ok {
		t.Errorf("P5.1: Pairs of many keys, the first one once more: %d, %v", len(l), ok)
	}
}

// within tells whether s lies in the memory of whole.
func within(s, whole string) bool {
	at, from := uintptr(unsafe.Pointer(unsafe.StringData(s))), uintptr(unsafe.Pointer(unsafe.StringData(whole)))
	return s != "" && at >= from && at < from+uintptr(len(whole))
}

func TestAnswersAreNewMemory(t *testing.T) {
	info := "language name=first comment=\"#\" append"
	lang, l, _ := Pairs(info)
	if within(lang, info) {
		t.Error("R2: the language shares memory with the info")
	}
	for _, p := range l {
		if s, _ := Text(p.Value); within(p.Key, info) || within(s, info) || s != "" && within(s, p.Value.(string)) {
			t.Errorf("R2: %v shares memory with the info, or Text with it", p)
		}
	}
	if v := any(info); within(Must(v), info) {
		t.Error("R2: Must shares memory with what it was given")
	}
	a, _ := Read(info)
	for _, s := range []string{a.Lang, a.Name, a.Style} {
		if within(s, info) {
			t.Errorf("R2: %q of Read shares memory with the info", s)
		}
	}
	if within(Write(api.Attr{Lang: info[:8]}), info) {
		t.Error("R2: Write shares memory with its language")
	}
	_, again, _ := Pairs(info)
	l[0] = Pair{}
	if again[0] != keyed("name", "first") {
		t.Errorf("R2: two answers share memory: %v", again)
	}
}
