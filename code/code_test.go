package code

import (
	"math"
	"regexp"
	"slices"
	"strings"
	"testing"
	"unsafe"
)

func TestRun(t *testing.T) {
	for _, c := range []struct {
		name, in string
		at       int
		c        byte
		want     int
	}{
		{"one", "a", 0, 'a', 1},
		{"all of it", "aaaa", 0, 'a', 4},
		{"from within", "aaaa", 2, 'a', 2},
		{"the last one", "aaaa", 3, 'a', 1},
		{"up to another", "aab", 0, 'a', 2},
		{"what is behind another doesn't count", "aabaaa", 0, 'a', 2},
		{"further on", "aabaaa", 3, 'a', 3},
		{"what is ahead isn't looked at", "aabaaa", 4, 'a', 2},
		{"another byte there", "aab", 2, 'a', 0},
		{"another byte there, the same behind it", "baa", 0, 'a', 0},
		{"the sign of code", "x```", 1, '`', 3},
		{"an escaped one counts", "\\``", 1, '`', 2},
		{"another sign", "**_", 0, '*', 2},
		{"blanks", "a  b", 1, ' ', 2},
		{"ends of lines", "\n\n ", 0, '\n', 2},
		{"small and great are two", "aAa", 0, 'a', 1},
		{"byte 0", "\x00\x00a", 0, 0, 2},
		{"byte 0 in none", "", 0, 0, 0},
		{"byte 0 of another", "a", 0, 0, 0},
		{"byte 255", "\xff\xff", 0, 0xFF, 2},
		{"a byte within a rune", "\u20ac", 1, 0x82, 1},
		{"a byte of two runes", "\u00e9\u00e9", 0, 0xC3, 1},
		{"followers", "\x80\x80\x80", 1, 0x80, 2},
		{"another byte 128 further", "\xe1a", 0, 'a', 0},

		{"at the end", "aa", 2, 'a', 0},
		{"past the end", "aa", 3, 'a', 0},
		{"far past the end", "aa", math.MaxInt, 'a', 0},
		{"just below 0", "aa", -1, 'a', 0},
		{"below 0 by the text's length", "aa", -2, 'a', 0},
		{"far below 0", "aa", math.MinInt, 'a', 0},
		{"at 2^32", "aa", 1 << 32, 'a', 0},
		{"nothing", "", 0, 'a', 0},
		{"below 0 of nothing", "", -1, 'a', 0},
		{"past nothing", "", 1, 'a', 0},
	} {
		if got := Run(c.in, c.at, c.c); got != c.want {
			t.Errorf("P9.1: %s: Run(%q, %d, %q) = %d, want %d", c.name, c.in, c.at, c.c, got, c.want)
		}
	}
}

// found is what Span answers.
type found struct {
	text string
	end  int
	ok   bool
}

// spanOf gives what Span answers of s at at.
func spanOf(s string, at int) found {
	text, end, ok := Span(s, at)
	return found{text, end, ok}
}

func TestSpan(t *testing.T) {
	for _, c := range []struct {
		name, in string
		at       int
		text     string
		end      int
	}{
		{"one sign", "`a`", 0, "a", 3},
		{"two signs", "``a``", 0, "a", 5},
		{"five signs", "`````a`````", 0, "a", 11},
		{"what is behind isn't looked at", "`a`b`c`", 0, "a", 3},
		{"the second of a text", "`a`b`c`", 4, "c", 7},
		{"from the sign that ended one", "`a`b`c`", 2, "b", 5},
		{"further on", "x `a` y", 2, "a", 5},
		{"behind a \\", "\\`a`", 1, "a", 4},
		{"a \\ within says nothing", "`a\\`b`", 0, "a\\", 4},
		{"\\ alone within", "`\\`", 0, "\\", 3},
		{"two signs within one", "`a``b`", 0, "a``b", 6},
		{"one sign within two", "``a`b``", 0, "a`b", 7},
		{"one sign, kept apart, within two", "`` ` ``", 0, "`", 7},
		{"longer and shorter within", "``a`b```c````d``", 0, "a`b```c````d", 16},
		{"four within two", "``a````b``", 0, "a````b", 10},
		{"a longer run closes nothing, the next one does", "`a``` `", 0, "a``` ", 7},
		{"other signs within", "`*a* [b](c) <d>`", 0, "*a* [b](c) <d>", 16},
		{"a run behind the one that ends it", "`a` ``", 0, "a", 3},
		{"signs ~ are none", "`~a~`", 0, "~a~", 5},

		{"a blank", "` `", 0, " ", 3},
		{"two blanks", "`  `", 0, "  ", 4},
		{"blanks around", "` a `", 0, "a", 5},
		{"one blank of two on each side", "`  a  `", 0, " a ", 7},
		{"a blank ahead alone", "` a`", 0, " a", 4},
		{"a blank behind alone", "`a `", 0, "a ", 4},
		{"tabs around", "`\ta\t`", 0, "\ta\t", 5},
		{"an end of a line", "`a\nb`", 0, "a b", 5},
		{"ends of lines around", "`\na\n`", 0, "a", 5},
		{"an end of a line alone", "`\n`", 0, " ", 3},
		{"an end of a line and a blank", "`\na `", 0, "a", 5},

		{"runes of more bytes", "\u20ac`\u00e9`\U0001f600", 3, "\u00e9", 7},
		{"bytes of no rune", "\xff`\xff\x80`", 1, "\xff\x80", 5},
		{"a byte of no rune that is the sign's and 128", "`\xe0`", 0, "\xe0", 3},
		{"byte 0", "`\x00`", 0, "\x00", 3},
	} {
		if got, want := spanOf(c.in, c.at), (found{c.text, c.end, true}); got != want {
			t.Errorf("P9.1: %s: Span(%q, %d) = %#v, want %#v", c.name, c.in, c.at, got, want)
		}
	}
}

func TestSpanNone(t *testing.T) {
	for _, c := range []struct {
		name, in string
		at       int
	}{
		{"nothing", "", 0},
		{"below 0 of nothing", "", -1},
		{"past nothing", "", 1},
		{"no sign", "a", 0},
		{"a sign further on", "a`b`", 0},
		{"another sign", "~a~", 0},
		{"another sign, *", "*a*", 0},
		{"a sign alone", "`", 0},
		{"a run alone", "````", 0},
		{"a run that isn't closed", "`a", 0},
		{"two signs that one would close", "``a`", 0},
		{"one sign that two would close", "`a``", 0},
		{"two signs that three would close", "``a```", 0},
		{"two signs that four would close", "``a````", 0},
		{"three signs that one and two would close", "```a`b``", 0},
		{"the run that ends one", "`a`", 2},
		{"a run ahead of it alone", "`a` b", 2},
		{"within a run", "``a``", 1},
		{"within a run, and as many as there are left behind", "``a`", 1},
		{"within a longer run", "```a``", 1},
		{"the last of a longer run", "```a`", 2},
		{"within the run of an escaped sign", "\\``a`", 2},
		{"within what a run closes", "`a`", 1},
		{"just below 0", "`a`", -1},
		{"below 0 by the text's length", "`a`", -3},
		{"far below 0", "`a`", math.MinInt},
		{"at the end", "`a`", 3},
		{"past the end", "`a`", 4},
		{"far past the end", "`a`", math.MaxInt},
		{"a byte that is the sign's and 128", "\xe0a\xe0", 0},
		{"within a rune", "\u20ac`a`", 1},
	} {
		if got := spanOf(c.in, c.at); got != (found{}) {
			t.Errorf("P9.1: %s: Span(%q, %d) = %#v, want none", c.name, c.in, c.at, got)
		}
	}
}

func TestClean(t *testing.T) {
	for _, c := range []struct{ name, in, want string }{
		{"nothing", "", ""},
		{"a letter", "a", "a"},
		{"no blanks around", "a b", "a b"},
		{"a blank", " ", " "},
		{"two blanks", "  ", "  "},
		{"three blanks", "   ", "   "},
		{"a blank on each side", " a ", "a"},
		{"two blanks on each side", "  a  ", " a "},
		{"more ahead than behind", "   a ", "  a"},
		{"a blank ahead alone", " a", " a"},
		{"a blank behind alone", "a ", "a "},
		{"two blanks ahead alone", "  a", "  a"},
		{"blanks within stay", "a   b", "a   b"},
		{"blanks within and around", " a  b ", "a  b"},
		{"an end of a line", "\n", " "},
		{"two ends of lines", "\n\n", "  "},
		{"an end of a line and a blank", "\n ", "  "},
		{"an end of a line within", "a\nb", "a b"},
		{"ends of lines within", "a\n\nb", "a  b"},
		{"ends of lines around", "\na\n", "a"},
		{"an end of a line ahead, a blank behind", "\na ", "a"},
		{"a blank ahead, an end of a line behind", " a\n", "a"},
		{"an end of a line ahead alone", "\na", " a"},
		{"ends of lines everywhere", "\n\na\nb\n\n", " a b "},
		{"byte 13 is no blank", "\r", "\r"},
		{"bytes 13 and 10", "a\r\nb", "a\r b"},
		{"bytes 13 around", "\ra\r", "\ra\r"},
		{"bytes 10 and 13 around", "\na\n\r", " a \r"},
		{"tabs around", "\ta\t", "\ta\t"},
		{"a tab within blanks", " \t ", "\t"},
		{"a tab behind a blank", " a\t", " a\t"},
		{"bytes 11 and 12", "\va\f", "\va\f"},
		{"other blanks around", "\u00a0a\u3000", "\u00a0a\u3000"},
		{"other blanks within blanks", " \u00a0 ", "\u00a0"},
		{"signs within blanks", " ` ", "`"},
		{"a \\ says nothing", " \\  ", "\\ "},
		{"runes of more bytes", " \u00e9\n\u20ac\U0001f600 ", "\u00e9 \u20ac\U0001f600"},
		{"bytes of no rune", " \xff\n\x80 ", "\xff \x80"},
		{"bytes of no rune that are a blank's and an end's and 128", "\xa0a\x8a", "\xa0a\x8a"},
		{"a rune that is an end of a line and 2^8", "\u010a", "\u010a"},
		{"byte 0 within blanks", " \x00 ", "\x00"},
	} {
		if got := Clean(c.in); got != c.want {
			t.Errorf("P9.1: %s: Clean(%q) = %q, want %q", c.name, c.in, got, c.want)
		}
	}
}

// Every text of up to eight bytes, of those that bear on one another.
func TestEveryShortText(t *testing.T) {
	const signs = "` \na"
	for n := range 9 {
		all := 1
		for range n {
			all *= len(signs)
		}
		for number := range all {
			text := make([]byte, n)
			for i := range text {
				text[i] = signs[number%len(signs)]
				number /= len(signs)
			}
			checkText(t, string(text))
			if t.Failed() {
				return
			}
		}
	}
}

// checkText holds what the package says of s against its words, read by whole runs.
func checkText(t *testing.T, s string) {
	t.Helper()
	for at := -1; at <= len(s)+1; at++ {
		if got, want := Run(s, at, '`'), runOf(s, at); got != want {
			t.Errorf("P9.1: Run(%q, %d, '`') = %d, want %d", s, at, got, want)
		}
		if got, want := spanOf(s, at), spanByRuns(s, at); got != want {
			t.Errorf("P9.1: Span(%q, %d) = %#v, want %#v", s, at, got, want)
		}
	}
	if got, want := Clean(s), cleanOf(s); got != want {
		t.Errorf("P9.1: Clean(%q) = %q, want %q", s, got, want)
	}
}

var (
	wholeRuns = regexp.MustCompile("`+")
	padded    = regexp.MustCompile("^ (.*[^ ].*) $")
)

// runOf tells how many signs are gone when those at the beginning are taken away.
func runOf(s string, at int) int {
	if at < 0 || at > len(s) {
		return 0
	}
	return len(s[at:]) - len(strings.TrimLeft(s[at:], "`"))
}

// spanByRuns looks among all whole runs of s for the one at at, and for the first behind it that is as long.
func spanByRuns(s string, at int) found {
	open := -1
	for _, run := range wholeRuns.FindAllStringIndex(s, -1) {
		if run[0] == at {
			open = run[1]
		} else if open >= 0 && run[1]-run[0] == open-at {
			return found{cleanOf(s[open:run[0]]), run[1], true}
		}
	}
	return found{}
}

// cleanOf gives what is within two blanks, if anything is.
func cleanOf(s string) string {
	s = strings.ReplaceAll(s, "\n", " ")
	if inner := padded.FindStringSubmatch(s); inner != nil {
		return inner[1]
	}
	return s
}

func TestLongTexts(t *testing.T) {
	const n = 1 << 20
	long := strings.Repeat("`", n)
	if got := Run(long, 0, '`'); got != n {
		t.Errorf("P9.1: Run of a long text: %d", got)
	}
	// Signs of a longer run are passed by together: one by one they would cost its length each.
	if got := spanOf("`a"+long+"b`", 0); got != (found{"a" + long + "b", n + 4, true}) {
		t.Errorf("P9.1: Span over a long run: %d, %v", got.end, got.ok)
	}
	if got := spanOf(long+"\n"+long, 0); got != (found{" ", 2*n + 1, true}) {
		t.Errorf("P9.1: Span of long runs: %d, %v", got.end, got.ok)
	}
	if got := spanOf("``"+strings.Repeat("a`", n), 0); got != (found{}) {
		t.Errorf("P9.1: Span of many runs: %d, %v", got.end, got.ok)
	}
	if Clean(strings.Repeat("\n", n)) != strings.Repeat(" ", n) || Clean(strings.Repeat(" a\n", n)) != strings.Repeat("a  ", n-1)+"a" {
		t.Error("P9.1: Clean of a long text")
	}
	// Each run of a text is asked, and with lengths that never come twice none of them ends soon.
	var rising strings.Builder
	for count := range 360 {
		rising.WriteString(strings.Repeat("`", count+1) + "a")
	}
	s := rising.String()
	for at := range len(s) {
		if got := spanOf(s, at); got != (found{}) {
			t.Fatalf("P9.1: Span at %d of rising runs: %d, %v", at, got.end, got.ok)
		}
	}
}

func TestAnswersAreNewMemory(t *testing.T) {
	whole := []byte("`a text without blanks around` in a longer one")
	was := slices.Clone(whole)
	s := unsafe.String(unsafe.SliceData(whole), len(whole))
	text, _, _ := Span(s, 0)
	answers := []string{text, Clean(s[1:29])}
	if !slices.Equal(whole, was) {
		t.Errorf("R2: the text is now %q", whole)
	}
	for i := range whole {
		whole[i] = 'x'
	}
	for i, got := range answers {
		if got != "a text without blanks around" {
			t.Errorf("R2: answer %d shares memory with the text: %q", i, got)
		}
	}
}
