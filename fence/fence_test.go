package fence

import (
	"math"
	"regexp"
	"slices"
	"strings"
	"testing"
	"unsafe"
)

func TestBegins(t *testing.T) {
	for _, c := range []struct {
		name, in string
		want     Open
	}{
		{"three signs `", "```", Open{'`', 3, 0, ""}},
		{"three signs ~", "~~~", Open{'~', 3, 0, ""}},
		{"four signs `", "````", Open{'`', 4, 0, ""}},
		{"all signs are counted", "~~~~~~~~~", Open{'~', 9, 0, ""}},
		{"one blank ahead", " ```", Open{'`', 3, 1, ""}},
		{"two blanks ahead", "  ~~~~", Open{'~', 4, 2, ""}},
		{"three blanks ahead", "   ```", Open{'`', 3, 3, ""}},
		{"an info at the signs", "```go", Open{'`', 3, 0, "go"}},
		{"an info behind a blank", "~~~ a", Open{'~', 3, 0, "a"}},
		{"an info behind tabs and blanks", "``` \t \tgo", Open{'`', 3, 0, "go"}},
		{"blanks and tabs behind an info", "~~~go\t \t ", Open{'~', 3, 0, "go"}},
		{"blanks and tabs within an info", "````  go \t name=a  ", Open{'`', 4, 0, "go \t name=a"}},
		{"blanks and tabs alone behind", "``` \t ", Open{'`', 3, 0, ""}},
		{"all of it", "   ~~~~~\tx y\t", Open{'~', 5, 3, "x y"}},
		{"` in an info of ~", "~~~ a`b", Open{'~', 3, 0, "a`b"}},
		{"` alone as an info of ~", "~~~```", Open{'~', 3, 0, "```"}},
		{"~ in an info of ~", "~~~ ~~~~", Open{'~', 3, 0, "~~~~"}},
		{"~ in an info of `", "```~~~", Open{'`', 3, 0, "~~~"}},
		{"other blanks stay in an info", "``` \u00a0a\u3000 ", Open{'`', 3, 0, "\u00a0a\u3000"}},
		{"ends of lines stay in an info", "~~~ \ra\n ", Open{'~', 3, 0, "\ra\n"}},
		{"bytes 11 and 12 stay in an info", "~~~\va\f", Open{'~', 3, 0, "\va\f"}},
		{"runes in an info", "```\u00e9\U0001f600", Open{'`', 3, 0, "\u00e9\U0001f600"}},
		{"bytes of no rune in an info", "~~~ \xff\x80\t", Open{'~', 3, 0, "\xff\x80"}},
		{"byte 0 in an info", "```\x00", Open{'`', 3, 0, "\x00"}},
	} {
		if got, ok := Begins(c.in); got != c.want || !ok {
			t.Errorf("P4.1: %s: Begins(%q) = %+v, %v, want %+v", c.name, c.in, got, ok, c.want)
		}
	}
}

func TestBeginsNone(t *testing.T) {
	for _, c := range []struct{ name, in string }{
		{"nothing", ""},
		{"a letter", "a"},
		{"blanks", "   "},
		{"one sign", "`"},
		{"two signs `", "``"},
		{"two signs ~", "~~"},
		{"two signs and an info", "~~ a"},
		{"two signs and blanks", " ``  "},
		{"four blanks ahead", "    ```"},
		{"a tab ahead", "\t~~~"},
		{"a blank and a tab ahead", " \t```"},
		{"three blanks and a tab ahead", "   \t```"},
		{"far in", "          ~~~ a"},
		{"a letter ahead", "a```"},
		{"another blank ahead", "\u00a0```"},
		{"an end of a line ahead", "\n~~~"},
		{"byte 0 ahead", "\x00```"},
		{"a byte of no rune ahead", "\xff```"},
		{"signs parted", "`` `"},
		{"signs mixed", "~~`"},
		{"signs mixed the other way", "``~"},
		{"signs by turns", "`~`~`~"},
		{"` in an info of `", "``` a`b"},
		{"` last in an info of `", "```a`"},
		{"` alone as an info of `", "``` ```"},
		{"` behind another sign", "```~`"},
		{"another sign", "***"},
		{"two halves of a rune", "\xef\xbf\xbd\xef\xbf"},
	} {
		if got, ok := Begins(c.in); got != (Open{}) || ok {
			t.Errorf("P4.1: %s: Begins(%q) = %+v, %v, want none", c.name, c.in, got, ok)
		}
	}
}

func TestEnds(t *testing.T) {
	ticks, tildes := Open{Char: '`', Count: 3}, Open{Char: '~', Count: 3}
	for _, c := range []struct {
		name string
		f    Open
		in   string
		want bool
	}{
		{"as many `", ticks, "```", true},
		{"as many ~", tildes, "~~~", true},
		{"more", ticks, "``````", true},
		{"one more", tildes, "~~~~", true},
		{"fewer", ticks, "``", false},
		{"fewer than four", Open{Char: '~', Count: 4}, "~~~", false},
		{"as many as four", Open{Char: '~', Count: 4}, "~~~~", true},
		{"fewer of a few", Open{Char: '`', Count: 2}, "`", false},
		{"one of one", Open{Char: '`', Count: 1}, "`", true},
		{"two of one", Open{Char: '~', Count: 1}, "~~", true},
		{"~ for `", ticks, "~~~", false},
		{"` for ~", tildes, "```", false},
		{"~ behind `", ticks, "```~", false},
		{"` behind ~", tildes, "~~~ `", false},
		{"blanks and tabs behind", ticks, "``` \t ", true},
		{"tabs behind more", tildes, "~~~~~\t\t", true},
		{"blanks parting them", ticks, "`` `", false},
		{"blanks parting more of them", ticks, "``` `", false},
		{"blanks behind fewer", ticks, "`` ", false},
		{"one blank ahead", ticks, " ```", true},
		{"three blanks ahead", tildes, "   ~~~", true},
		{"four blanks ahead", tildes, "    ~~~", false},
		{"a tab ahead", ticks, "\t```", false},
		{"a blank and a tab ahead", ticks, " \t```", false},
		{"blanks ahead and behind", ticks, "  ````  ", true},
		{"a word behind", tildes, "~~~ a", false},
		{"a letter behind", ticks, "```a", false},
		{"another blank behind", ticks, "```\u00a0", false},
		{"another blank ahead", ticks, "\u00a0```", false},
		{"an end of a line behind", ticks, "```\n", false},
		{"byte 13 behind", tildes, "~~~\r", false},
		{"byte 0 behind", ticks, "```\x00", false},
		{"a byte of no rune behind", ticks, "``` \xff", false},
		{"nothing", ticks, "", false},
		{"blanks alone", tildes, "   ", false},
		{"a letter", ticks, "a", false},
		{"a Count of 0", Open{Char: '~'}, "~~~", false},
		{"a Count of 0 and nothing", Open{Char: '~'}, "", false},
		{"a Count below 0", Open{Char: '`', Count: -1}, "```", false},
		{"a Count below 0 and nothing", Open{Char: '`', Count: -1}, "", false},
		{"the least Count", Open{Char: '`', Count: math.MinInt}, "```", false},
		{"the greatest Count", Open{Char: '`', Count: math.MaxInt}, "```", false},
		{"no fence at all", Open{}, "", false},
		{"no fence at all and byte 0", Open{}, "\x00", false},
		{"Indent and Info don't count", Open{'~', 3, 3, "x"}, "~~~", true},
		{"a greater Indent doesn't count", Open{'~', 3, math.MaxInt, ""}, "    ~~~", false},
		{"nor does one below 0", Open{'~', 3, math.MinInt, "~"}, "  ~~~", true},
		{"another sign", Open{Char: '*', Count: 2}, "***", true},
		{"another sign, fewer", Open{Char: '*', Count: 4}, "***", false},
		{"byte 0", Open{Count: 2}, "\x00\x00 ", true},
		{"a byte of no rune", Open{Char: 0xff, Count: 1}, " \xff", true},
		{"blanks are ahead, not signs", Open{Char: ' ', Count: 1}, "  ", false},
		{"tabs are ahead, not signs", Open{Char: '\t', Count: 1}, "\t", false},
	} {
		if got := Ends(c.f, c.in); got != c.want {
			t.Errorf("P4.1: %s: Ends(%+v, %q) = %v", c.name, c.f, c.in, got)
		}
	}
}

func TestLong(t *testing.T) {
	for _, c := range []struct {
		name string
		in   []string
		want int
	}{
		{"no text", nil, 3},
		{"an empty list", []string{}, 3},
		{"nothing", []string{""}, 3},
		{"no sign", []string{"a", "", "b c"}, 3},
		{"one", []string{"a`b"}, 3},
		{"two", []string{"``"}, 3},
		{"three", []string{"```"}, 4},
		{"four", []string{"a````b"}, 5},
		{"three first", []string{"```a"}, 4},
		{"three last", []string{"a```"}, 4},
		{"parted", []string{"`` `` `"}, 3},
		{"parted by one byte", []string{"```a```"}, 4},
		{"parted by byte 0", []string{"``\x00``"}, 3},
		{"parted by a byte of no rune", []string{"``\xff```"}, 4},
		{"the greater first", []string{"````` ```"}, 6},
		{"the greater last", []string{"``` `````"}, 6},
		{"the greater between", []string{"``` ````` ```"}, 6},
		{"the first text", []string{"````", "a", "```"}, 5},
		{"the last text", []string{"```", "a", "````"}, 5},
		{"the text between", []string{"a", "x ````` ``", "```"}, 6},
		{"texts are not one", []string{"``", "``", "`"}, 3},
		{"~ is another sign", []string{"~~~~~~"}, 3},
		{"~ parts them", []string{"``~``"}, 3},
		{"ends of lines part them", []string{"``\n``"}, 3},
	} {
		if got := Long(c.in); got != c.want {
			t.Errorf("P4.1: %s: Long(%q) = %d, want %d", c.name, c.in, got, c.want)
		}
	}
}

var (
	begins = regexp.MustCompile("^( {0,3})(?:(`{3,})[ \t]*([^`]*?)|(~{3,})[ \t]*(.*?))[ \t]*$")
	ticks  = regexp.MustCompile("`+")
)

// begun gives what Begins must, by what the whole line looks like.
func begun(s string) (Open, bool) {
	m := begins.FindStringSubmatch(s)
	if m == nil {
		return Open{}, false
	}
	signs := m[2] + m[4]
	return Open{Char: signs[0], Count: len(signs), Indent: len(m[1]), Info: m[3] + m[5]}, true
}

// long gives what Long must.
func long(s string) int {
	most := 2
	for _, r := range ticks.FindAllString(s, -1) {
		most = max(most, len(r))
	}
	return most + 1
}

// Every text of up to seven bytes out of a blank, a tab, both signs and a letter, held against what it looks like.
func TestEveryShortText(t *testing.T) {
	ends := map[Open]*regexp.Regexp{
		{Char: '`', Count: 1}: regexp.MustCompile("^ {0,3}`{1,}[ \t]*$"),
		{Char: '`', Count: 3}: regexp.MustCompile("^ {0,3}`{3,}[ \t]*$"),
		{Char: '~', Count: 4}: regexp.MustCompile("^ {0,3}~{4,}[ \t]*$"),
	}
	level := []string{""}
	for range 8 {
		var next []string
		for _, s := range level {
			want, wantOK := begun(s)
			if got, ok := Begins(s); got != want || ok != wantOK {
				t.Fatalf("P4.1: Begins(%q) = %+v, %v, want %+v, %v", s, got, ok, want, wantOK)
			}
			for f, re := range ends {
				if got := Ends(f, s); got != re.MatchString(s) {
					t.Fatalf("P4.1: Ends(%+v, %q) = %v", f, s, got)
				}
			}
			if got := Long([]string{s}); got != long(s) {
				t.Fatalf("P4.1: Long(%q) = %d, want %d", s, got, long(s))
			}
			next = append(next, s+" ", s+"\t", s+"`", s+"~", s+"a")
		}
		level = next
	}
}

// A fence of Long signs ` is not ended by any of the texts that it was asked for, and is by itself.
func TestLongIsNotEnded(t *testing.T) {
	l := []string{"a", "```", " ````  ", "~~~~~~", "`````x", "   ``"}
	line := strings.Repeat("`", Long(l))
	f, ok := Begins(line)
	if !ok || !Ends(f, line) {
		t.Errorf("P4.1: %q: no fence, or not ended by itself", line)
	}
	for _, s := range l {
		if Ends(f, s) {
			t.Errorf("P4.1: Ends(%+v, %q), though Long was asked", f, s)
		}
	}
}

func TestLongTexts(t *testing.T) {
	const n = 1 << 21
	s := strings.Repeat("~", n)
	if f, ok := Begins(s + " a"); f != (Open{Char: '~', Count: n, Info: "a"}) || !ok {
		t.Error("P4.1: Begins of a long text")
	}
	if !Ends(Open{Char: '~', Count: n}, s+strings.Repeat(" ", n)) || Ends(Open{Char: '~', Count: n + 1}, s) {
		t.Error("P4.1: Ends of a long text")
	}
	if f, ok := Begins("```" + s); f.Info != s || !ok {
		t.Error("P4.1: Begins of a long info")
	}
	if got := Long([]string{strings.Repeat("`a", n), strings.Repeat("`", n)}); got != n+1 {
		t.Errorf("P4.1: Long of long texts = %d", got)
	}
	if got := Long(make([]string, n)); got != 3 {
		t.Errorf("P4.1: Long of many texts = %d", got)
	}
}

func TestLongLeavesItsList(t *testing.T) {
	l := []string{"a", "```", "`````", "``````"}
	if got := Long(l[:2]); got != 4 {
		t.Errorf("R5: Long of a list with room behind it = %d, want 4", got)
	}
	if !slices.Equal(l, []string{"a", "```", "`````", "``````"}) {
		t.Errorf("R2: Long changed its list: %q", l)
	}
}

func TestInfoIsNewMemory(t *testing.T) {
	for _, s := range []string{"```a", "~~~  a b  ", "~~~~`", "   ```\tgo"} {
		f, _ := Begins(s)
		at := uintptr(unsafe.Pointer(unsafe.StringData(f.Info)))
		from := uintptr(unsafe.Pointer(unsafe.StringData(s)))
		if at >= from && at < from+uintptr(len(s)) {
			t.Errorf("R2: Begins(%q): its Info shares memory with the text", s)
		}
	}
}
