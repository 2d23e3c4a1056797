package emph

import (
	"math"
	"regexp"
	"strings"
	"testing"
)

// kinds of what stands beside a run.
var (
	blanks  = []rune{'\t', '\n', '\v', '\f', '\r', ' ', 0xA0, 0x2003, 0x3000}
	signs   = []rune("!\"#$%&'()*+,-./:;<=>?@[\\]^_`{|}~\u00a1\u00a7\u2010\u2014\u201c\u2026\u2027\u3001\u3002")
	letters = []rune("azAZ09\x00\x01\x1b\x7f\u0080\u0085\u009f\u00a2\u00aa\u00bf\u00c0\u00e9\u2002\u2004\u200b\u200f\u2028\u205f\u2fff\u3003\ufeff\ufffd\U0001f600\U0010ffff")
)

// kindOf is what Kind answers.
type kindOf struct {
	run Run
	end int
	ok  bool
}

// kindAt gives what Kind answers of s at at.
func kindAt(s string, at int) kindOf {
	run, end, ok := Kind(s, at)
	return kindOf{run, end, ok}
}

// run gives a Run: how has an o in it if it Opens, a c if it Closes.
func run(char byte, count int, how string) Run {
	return Run{char, count, strings.Contains(how, "o"), strings.Contains(how, "c")}
}

func TestKind(t *testing.T) {
	for _, c := range []struct {
		name, in string
		at       int
		run      Run
		end      int
	}{
		{"* alone", "*", 0, run('*', 1, ""), 1},
		{"_ alone", "_", 0, run('_', 1, ""), 1},
		{"a run alone", "****", 0, run('*', 4, ""), 4},
		{"* ahead of a letter", "*a", 0, run('*', 1, "o"), 1},
		{"_ ahead of a letter", "_a", 0, run('_', 1, "o"), 1},
		{"* behind a letter", "a*", 1, run('*', 1, "c"), 2},
		{"_ behind a letter", "a_", 1, run('_', 1, "c"), 2},
		{"* in a word", "a*b", 1, run('*', 1, "oc"), 2},
		{"_ in a word", "a_b", 1, run('_', 1, ""), 2},
		{"__ in a word", "a__b", 1, run('_', 2, ""), 3},
		{"* in a number", "1*2", 1, run('*', 1, "oc"), 2},
		{"_ in a number", "1_2", 1, run('_', 1, ""), 2},
		{"* apart", "a * b", 2, run('*', 1, ""), 3},
		{"_ apart", "a _ b", 2, run('_', 1, ""), 3},
		{"two signs", "**a**", 0, run('*', 2, "o"), 2},
		{"two signs at the end", "**a**", 3, run('*', 2, "c"), 5},
		{"three signs within", "a***b", 1, run('*', 3, "oc"), 4},
		{"a run of more than is reckoned with", strings.Repeat("*", 101) + "a", 0, run('*', 101, "o"), 101},
		{"up to the next run alone", "*a**", 0, run('*', 1, "o"), 1},

		{"* ahead of a sign, at the beginning", "*!", 0, run('*', 1, "o"), 1},
		{"_ ahead of a sign, at the beginning", "_!", 0, run('_', 1, "o"), 1},
		{"* behind a sign, at the end", "!*", 1, run('*', 1, "c"), 2},
		{"_ behind a sign, at the end", "!_", 1, run('_', 1, "c"), 2},
		{"* behind a letter, ahead of a sign", "a*!", 1, run('*', 1, "c"), 2},
		{"_ behind a letter, ahead of a sign", "a_!", 1, run('_', 1, "c"), 2},
		{"* behind a sign, ahead of a letter", "!*a", 1, run('*', 1, "o"), 2},
		{"_ behind a sign, ahead of a letter", "!_a", 1, run('_', 1, "o"), 2},
		{"* between signs", "!*?", 1, run('*', 1, "oc"), 2},
		{"_ between signs", "!_?", 1, run('_', 1, "oc"), 2},
		{"* between a blank and a sign", " *!", 1, run('*', 1, "o"), 2},
		{"_ between a blank and a sign", " _!", 1, run('_', 1, "o"), 2},
		{"* between a sign and a blank", "!* ", 1, run('*', 1, "c"), 2},
		{"_ between a sign and a blank", "!_ ", 1, run('_', 1, "c"), 2},

		{"* ahead of _", "a*_b", 1, run('*', 1, "c"), 2},
		{"_ behind *", "a*_b", 2, run('_', 1, "o"), 3},
		{"_ between *", "*_*", 1, run('_', 1, "oc"), 2},
		{"* between _", "_*_", 1, run('*', 1, "oc"), 2},
		{"the last of three runs", "**__*", 4, run('*', 1, "c"), 5},

		{"an escaped one, asked for", "\\*a", 1, run('*', 1, "o"), 2},
		{"behind an escaped other one", "\\_*a", 2, run('*', 1, "o"), 3},
		{"behind an escaped letter", "\\a*b", 2, run('*', 1, "oc"), 3},
		{"ahead of an escaped one", "a*\\*", 1, run('*', 1, "c"), 2},
		{"behind a \\ that is escaped", "\\\\*a", 2, run('*', 1, "o"), 3},
		{"behind the same sign and another", "**a*b", 3, run('*', 1, "oc"), 4},

		{"an end of a line ahead", "\n_a", 1, run('_', 1, "o"), 2},
		{"an end of a line behind", "a_\n", 1, run('_', 1, "c"), 2},
		{"runes of more bytes", "\u00e9*\u20ac", 2, run('*', 1, "oc"), 3},
		{"runes of more bytes, _", "\u00e9_\u20ac", 2, run('_', 1, ""), 3},
		{"a rune of four bytes ahead", "\U0001f600_!", 4, run('_', 1, "c"), 5},
		{"a sign of three bytes ahead", "\u2014_a", 3, run('_', 1, "o"), 4},
		{"a sign of three bytes behind", "a_\u2014", 1, run('_', 1, "c"), 2},
		{"a blank of two bytes ahead", "\u00a0*\u00a1", 2, run('*', 1, "o"), 3},
		{"a blank of three bytes behind", "\u00a1*\u3000", 2, run('*', 1, "c"), 3},
		{"only the rune right ahead counts", " a*!", 2, run('*', 1, "c"), 3},
		{"only the rune right behind counts", "!*a ", 1, run('*', 1, "o"), 2},
		{"bytes of no rune", "\xff_\xff", 1, run('_', 1, ""), 2},
		{"bytes of no rune, *", "\x80*\xc2", 1, run('*', 1, "oc"), 2},
		{"a blank without its last byte", "\xe3\x80*!", 2, run('*', 1, "c"), 3},
		{"a blank's last byte alone", "!*\xa0", 1, run('*', 1, "o"), 2},
		{"a sign's last byte alone", "\xa1_a", 1, run('_', 1, ""), 2},
		{"rune 0", "\x00_\x00", 1, run('_', 1, ""), 2},
		{"U+FFFD", "\ufffd*!", 3, run('*', 1, "c"), 4},
	} {
		if got, want := kindAt(c.in, c.at), (kindOf{c.run, c.end, true}); got != want {
			t.Errorf("P10.1: %s: Kind(%q, %d) = %v, want %v", c.name, c.in, c.at, got, want)
		}
	}
}

func TestKindNone(t *testing.T) {
	for _, c := range []struct {
		name, in string
		at       int
	}{
		{"nothing", "", 0},
		{"below 0 of nothing", "", -1},
		{"past nothing", "", 1},
		{"a letter", "a", 0},
		{"a sign further on", "a*b", 0},
		{"a sign ahead", "*a", 1},
		{"a blank", " *", 0},
		{"a \\", "\\*", 0},
		{"another sign", "~a~", 0},
		{"a sign of code", "`a`", 0},
		{"beside *", ")*+"[:1], 0},
		{"behind *", "+", 0},
		{"beside _", "^", 0},
		{"behind _", "`", 0},
		{"the second of a run", "**", 1},
		{"the second of a run of three", "***a", 1},
		{"the last of a run", "a___", 3},
		{"behind an escaped one", "\\**a", 2},
		{"behind an escaped _", "\\__a", 2},
		{"within a run behind an escaped one", "\\***a", 3},
		{"behind one that a \\ which is escaped doesn't escape", "\\\\**", 3},
		{"at the end", "*", 1},
		{"past the end", "*", 2},
		{"far past the end", "*", math.MaxInt},
		{"at 2^32", "*", 1 << 32},
		{"just below 0", "*", -1},
		{"below 0 by the text's length", "*a", -2},
		{"far below 0", "*", math.MinInt},
		{"a byte that is * and 128", "\xaa", 0},
		{"a byte that is _ and 128", "\xdfa", 0},
		{"a rune that is * and 2^8", "\u012a", 0},
		{"within a rune", "\u20ac", 1},
	} {
		if got := kindAt(c.in, c.at); got != (kindOf{}) {
			t.Errorf("P10.1: %s: Kind(%q, %d) = %v, want none", c.name, c.in, c.at, got)
		}
	}
}

// beside tells what a run does between each two kinds of runes, by hand: of *, and of _.
var beside = map[string][2]string{
	"blank blank":   {"", ""},
	"blank sign":    {"o", "o"},
	"blank letter":  {"o", "o"},
	"sign blank":    {"c", "c"},
	"sign sign":     {"oc", "oc"},
	"sign letter":   {"o", "o"},
	"letter blank":  {"c", "c"},
	"letter sign":   {"c", "c"},
	"letter letter": {"oc", ""},
}

// Each two runes around a run, of each kind.
func TestKindBetweenRunes(t *testing.T) {
	kinds := map[string][]rune{"blank": blanks, "sign": signs, "letter": letters}
	for pair, how := range beside {
		first, second, _ := strings.Cut(pair, " ")
		for _, ahead := range kinds[first] {
			for _, behind := range kinds[second] {
				checkBetween(t, '*', ahead, behind, how[0])
				checkBetween(t, '_', ahead, behind, how[1])
			}
		}
	}
}

// checkBetween holds runs of char between two runes against how.
func checkBetween(t *testing.T, char byte, ahead, behind rune, how string) {
	t.Helper()
	if rune(char) == ahead || rune(char) == behind {
		return
	}
	for count := 1; count <= 4; count++ {
		at := len(string(ahead))
		s := string(ahead) + strings.Repeat(string(char), count) + string(behind)
		if got, want := kindAt(s, at), (kindOf{run(char, count, how), at + count, true}); got != want {
			t.Errorf("P10.1: Kind(%q, %d) = %v, want %v", s, at, got, want)
		}
		// What is further off says nothing.
		for _, far := range []string{" ", "!", "a", "*", "_", "\u3000", "\xe2"} {
			if got, want := kindAt(far+s+far, at+len(far)), (kindOf{run(char, count, how), at + count + len(far), true}); got != want {
				t.Errorf("P10.1: Kind(%q, %d) = %v, want %v", far+s+far, at+len(far), got, want)
			}
		}
	}
}

// Every text of up to six pieces, of those that bear on one another.
func TestKindOfEveryShortText(t *testing.T) {
	pieces := []string{"*", "_", "a", " ", "!", "\\", "\u3000", "\xe3"}
	for n := range 7 {
		all := 1
		for range n {
			all *= len(pieces)
		}
		for number := range all {
			var text strings.Builder
			for range n {
				text.WriteString(pieces[number%len(pieces)])
				number /= len(pieces)
			}
			checkKinds(t, text.String())
			if t.Failed() {
				return
			}
		}
	}
}

var wholeRuns = regexp.MustCompile(`\*+|_+`)

// checkKinds holds Kind at each place of s against its whole runs and the runes around them.
func checkKinds(t *testing.T, s string) {
	t.Helper()
	want := map[int]kindOf{}
	for _, place := range wholeRuns.FindAllStringIndex(s, -1) {
		from, to := place[0], place[1]
		ahead := []rune(" " + s[:from])
		behind := []rune(s[to:] + " ")
		how := beside[named(ahead[len(ahead)-1])+" "+named(behind[0])][0]
		if s[from] == '_' {
			how = beside[named(ahead[len(ahead)-1])+" "+named(behind[0])][1]
		}
		want[from] = kindOf{run(s[from], to-from, how), to, true}
	}
	for at := -1; at <= len(s)+1; at++ {
		if got := kindAt(s, at); got != want[at] {
			t.Errorf("P10.1: Kind(%q, %d) = %v, want %v", s, at, got, want[at])
		}
	}
}

// named gives the kind of r, of the few that checkKinds is given.
func named(r rune) string {
	switch r {
	case ' ', 0x3000:
		return "blank"
	case '*', '_', '!', '\\':
		return "sign"
	}
	return "letter"
}

func TestKindOfLongTexts(t *testing.T) {
	const n = 1 << 20
	long := "a" + strings.Repeat("*", n) + "b"
	if got, want := kindAt(long, 1), (kindOf{run('*', n, "oc"), n + 1, true}); got != want {
		t.Errorf("P10.1: Kind of a long run: %v, want %v", got, want)
	}
	// At each place of a long run, and of a text of many runs: that must cost the length of neither each time.
	for at := 2; at <= n; at++ {
		if got := kindAt(long, at); got != (kindOf{}) {
			t.Fatalf("P10.1: Kind within a long run, at %d: %v", at, got)
		}
	}
	many := strings.Repeat("\u20ac_", n/4)
	for at := 3; at < len(many)-1; at += 4 {
		if got := kindAt(many, at); got != (kindOf{run('_', 1, ""), at + 1, true}) {
			t.Fatalf("P10.1: Kind among many runs, at %d: %v", at, got)
		}
	}
}
