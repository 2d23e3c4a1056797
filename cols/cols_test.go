package cols

import (
	"math"
	"strings"
	"testing"
	"unsafe"
)

// Each case: a text, the columns and bytes of its Indent, its Width. Empty is asked of each, too.
var cases = []struct {
	name, in          string
	col, bytes, width int
}{
	{"nothing", "", 0, 0, 0},
	{"a letter", "a", 0, 0, 1},
	{"one blank", " ", 1, 1, 1},
	{"five blanks", "     ", 5, 5, 5},
	{"blanks then a letter", "   a", 3, 3, 4},
	{"blanks around", "  a  ", 2, 2, 5},
	{"one tab", "\t", 4, 1, 4},
	{"two tabs", "\t\t", 8, 2, 8},
	{"a tab behind one blank", " \ta", 4, 2, 5},
	{"a tab behind two blanks", "  \ta", 4, 3, 5},
	{"a tab behind three blanks", "   \ta", 4, 4, 5},
	{"a tab behind four blanks", "    \ta", 8, 5, 9},
	{"a tab behind five blanks", "     \ta", 8, 6, 9},
	{"a blank behind a tab", "\t a", 5, 2, 6},
	{"tabs and blanks by turns", "\t \t x", 9, 4, 10},
	{"tabs and blanks alone", " \t  \t ", 9, 6, 9},
	{"a tab within", "a\tb", 0, 0, 5},
	{"a tab behind three letters", "abc\td", 0, 0, 5},
	{"a tab behind four letters", "abcd\td", 0, 0, 9},
	{"a tab behind an indent and a letter", " a\t\tb", 1, 1, 9},
	{"a tab last", " a\t", 1, 1, 4},
	{"a rune of two bytes", "\u00e9", 0, 0, 2},
	{"a rune of four bytes, then a tab", "\U0001f600\t", 0, 0, 8},
	{"a rune of three bytes, then a tab", "\u20ac\t", 0, 0, 4},
	{"bytes of no rune", " \xff\x80", 1, 1, 3},
	{"other blanks are no blanks", "\u00a0 ", 0, 0, 3},
	{"other blanks behind one", " \u3000", 1, 1, 4},
	{"ends of lines are no blanks", " \n", 1, 1, 2},
	{"byte 13", "\r ", 0, 0, 2},
	{"bytes 11 and 12", "\t\v\f", 4, 1, 6},
	{"byte 0", "\x00\t", 0, 0, 4},
	{"byte 127", " \x7f", 1, 1, 2},
}

func TestIndent(t *testing.T) {
	for _, c := range cases {
		if col, bytes := Indent(c.in); col != c.col || bytes != c.bytes {
			t.Errorf("P3.1: %s: Indent(%q) = %d, %d, want %d, %d", c.name, c.in, col, bytes, c.col, c.bytes)
		}
	}
}

func TestEmpty(t *testing.T) {
	for _, c := range cases {
		want := c.bytes == len(c.in)
		if got := Empty(c.in); got != want {
			t.Errorf("P3.1: %s: Empty(%q) = %v, want %v", c.name, c.in, got, want)
		}
	}
}

func TestWidth(t *testing.T) {
	for _, c := range cases {
		if got := Width(c.in); got != c.width {
			t.Errorf("P3.1: %s: Width(%q) = %d, want %d", c.name, c.in, got, c.width)
		}
	}
}

func TestStrip(t *testing.T) {
	for _, c := range []struct {
		in   string
		n    int
		want string
	}{
		{"", 0, ""}, {"", 3, ""}, {"", -3, ""},
		{"a", 0, "a"}, {"a", 5, "a"},
		{" ", 1, ""}, {" ", 2, ""},
		{"  a", 0, "  a"}, {"  a", 1, " a"}, {"  a", 2, "a"}, {"  a", 3, "a"},
		// A tab that is partly taken leaves blanks.
		{"\t", 0, "\t"}, {"\t", 1, "   "}, {"\t", 2, "  "}, {"\t", 3, " "}, {"\t", 4, ""}, {"\t", 5, ""},
		{"\ta", 1, "   a"}, {"\ta", 2, "  a"}, {"\ta", 3, " a"}, {"\ta", 4, "a"},
		// Columns are counted from the text's beginning: behind a blank, a tab is three of them.
		{" \ta", 1, "\ta"}, {" \ta", 2, "  a"}, {" \ta", 3, " a"}, {" \ta", 4, "a"},
		{"  \ta", 2, "\ta"}, {"  \ta", 3, " a"}, {"  \ta", 4, "a"},
		{"   \ta", 2, " \ta"}, {"   \ta", 3, "\ta"}, {"   \ta", 4, "a"},
		{"    \ta", 4, "\ta"}, {"    \ta", 5, "   a"},
		// What stands behind a tab that is partly taken stays as it is.
		{"\t\ta", 1, "   \ta"}, {"\t\ta", 4, "\ta"}, {"\t\ta", 5, "   a"}, {"\t\ta", 8, "a"},
		{"\t a", 3, "  a"}, {"\t a", 4, " a"}, {"\t a", 5, "a"},
		{" \t \tx", 5, "\tx"}, {" \t \tx", 6, "  x"},
		// Only those at the beginning are taken.
		{" a  b\t", 4, "a  b\t"}, {"a\tb", 2, "a\tb"}, {"\ta\t\tb", 2, "  a\t\tb"},
		// Nothing else is a blank.
		{"\u00a0 a", 2, "\u00a0 a"}, {"\u3000", 1, "\u3000"}, {"\n a", 2, "\n a"}, {" \r\n", 5, "\r\n"}, {" \v", 2, "\v"},
		{"\x00 ", 2, "\x00 "}, {" \xff\x80", 3, "\xff\x80"}, {"\t\u00e9", 1, "   \u00e9"},
		// Numbers of any size.
		{"  a", -1, "  a"}, {"\ta", -1, "\ta"}, {"\ta", -3, "\ta"}, {" \ta", math.MinInt, " \ta"},
		{" \ta", math.MinInt + 1, " \ta"}, {" \ta", math.MaxInt, "a"}, {"\t\t", math.MaxInt, ""}, {"a", math.MaxInt - 1, "a"},
	} {
		if got := Strip(c.in, c.n); got != c.want {
			t.Errorf("P3.1: Strip(%q, %d) = %q, want %q", c.in, c.n, got, c.want)
		}
	}
}

// spread writes s with blanks for its tabs, and tells which columns tabs begin at.
func spread(s string) (string, []int) {
	flat := ""
	var tabs []int
	for i := range len(s) {
		if s[i] != '\t' {
			flat += s[i : i+1]
			continue
		}
		tabs = append(tabs, len(flat))
		flat += []string{"    ", "   ", "  ", " "}[len(flat)%4]
	}
	return flat, tabs
}

// stripped gives what Strip must: s from the column up to which it is taken, with the tabs that begin there or behind it as they were.
func stripped(s string, n int) string {
	flat, tabs := spread(s)
	n = min(n, len(flat)-len(strings.TrimLeft(flat, " ")))
	out := ""
	for at := n; at < len(flat); {
		if len(tabs) > 0 && tabs[0] < at {
			tabs = tabs[1:]
			continue
		}
		if len(tabs) > 0 && tabs[0] == at {
			out += "\t"
			at += 4 - at%4
			continue
		}
		out += flat[at : at+1]
		at++
	}
	return out
}

// Every text of up to seven bytes out of a blank, a tab and a letter, held against what it looks like.
func TestEveryShortText(t *testing.T) {
	level := []string{""}
	for range 8 {
		var next []string
		for _, s := range level {
			checkText(t, s)
			next = append(next, s+" ", s+"\t", s+"a")
		}
		if t.Failed() {
			return
		}
		level = next
	}
}

func checkText(t *testing.T, s string) {
	t.Helper()
	flat, _ := spread(s)
	wantCol := len(flat) - len(strings.TrimLeft(flat, " "))
	wantBytes := len(s) - len(strings.TrimLeft(s, " \t"))
	if col, bytes := Indent(s); col != wantCol || bytes != wantBytes {
		t.Errorf("P3.1: Indent(%q) = %d, %d, want %d, %d", s, col, bytes, wantCol, wantBytes)
	}
	if got := Width(s); got != len(flat) {
		t.Errorf("P3.1: Width(%q) = %d, want %d", s, got, len(flat))
	}
	if got := Empty(s); got == strings.Contains(s, "a") {
		t.Errorf("P3.1: Empty(%q) = %v", s, got)
	}
	for n := range len(flat) + 2 {
		if got, want := Strip(s, n), stripped(s, n); got != want {
			t.Errorf("P3.1: Strip(%q, %d) = %q, want %q", s, n, got, want)
		}
	}
}

func TestLongTexts(t *testing.T) {
	const n = 1 << 20
	s := strings.Repeat(" \t", n)
	if col, bytes := Indent(s + "a"); col != 4*n || bytes != 2*n {
		t.Errorf("P3.1: Indent of a long text = %d, %d", col, bytes)
	}
	if !Empty(s) || Empty(s+"a") || Width(s) != 4*n {
		t.Error("P3.1: Empty, Width of a long text")
	}
	if Strip(s+"a", 4*n) != "a" || Strip(s+"a", 4*n-2) != "  a" || Strip(s+"a", 0) != s+"a" {
		t.Error("P3.1: Strip of a long text")
	}
}

func TestStripIsNewMemory(t *testing.T) {
	for _, c := range []struct {
		in string
		n  int
	}{{"a", 0}, {"  ab", -1}, {"  ab", 1}, {"  ab", 2}, {"\tab", 4}, {" \tab", 1}, {"\tab", 2}} {
		got := Strip(c.in, c.n)
		at := uintptr(unsafe.Pointer(unsafe.StringData(got)))
		from := uintptr(unsafe.Pointer(unsafe.StringData(c.in)))
		if at >= from && at < from+uintptr(len(c.in)) {
			t.Errorf("R2: Strip(%q, %d) shares memory with its text", c.in, c.n)
		}
	}
}
