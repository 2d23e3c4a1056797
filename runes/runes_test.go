package runes

import (
	"bytes"
	"math"
	"slices"
	"strings"
	"testing"
	"unicode/utf8"
)

var (
	blanks  = []rune{9, 10, 11, 12, 13, 32, 0xA0, 0x2003, 0x3000}
	signs   = []rune("!\"#$%&'()*+,-./:;<=>?@[\\]^_`{|}~\u00a1\u00a7\u2010\u2011\u2012\u2013\u2014\u2015\u2016\u2017\u2018\u2019\u201a\u201b\u201c\u201d\u201e\u201f\u2020\u2021\u2022\u2023\u2024\u2025\u2026\u2027\u3001\u3002")
	letters = []rune("abcdefghijklmnopqrstuvwxyzABCDEFGHIJKLMNOPQRSTUVWXYZ")
)

// Every rune is of the kinds that the lists name, and of no other one.
func TestKindsOfEveryRune(t *testing.T) {
	kind := map[rune]string{utf8.RuneError: "none"}
	for _, r := range blanks {
		kind[r] = "blank"
	}
	for _, r := range signs {
		kind[r] = "punct"
	}
	for _, r := range letters {
		kind[r] = "letter"
	}
	for r := rune(-300); r <= utf8.MaxRune; r++ {
		want := kind[r]
		if want == "" && r >= 0xC0 {
			want = "letter"
		}
		if Blank(r) != (want == "blank") {
			t.Errorf("P2.1: Blank(%#x) = %v", r, Blank(r))
		}
		if Punct(r) != (want == "punct") {
			t.Errorf("P2.1: Punct(%#x) = %v", r, Punct(r))
		}
		if Letter(r) != (want == "letter") {
			t.Errorf("P2.1: Letter(%#x) = %v", r, Letter(r))
		}
	}
}

// The runes beside each edge that the document names, by hand.
func TestKindsAtTheEdges(t *testing.T) {
	for _, c := range []struct {
		r                    rune
		blank, punct, letter bool
	}{
		{0, false, false, false}, {8, false, false, false}, {9, true, false, false},
		{13, true, false, false}, {14, false, false, false},
		{31, false, false, false}, {' ', true, false, false}, {'!', false, true, false},
		{'/', false, true, false}, {'0', false, false, false},
		{'9', false, false, false}, {':', false, true, false},
		{'@', false, true, false}, {'A', false, false, true},
		{'Z', false, false, true}, {'[', false, true, false},
		{'`', false, true, false}, {'a', false, false, true},
		{'z', false, false, true}, {'{', false, true, false},
		{'~', false, true, false}, {127, false, false, false}, {128, false, false, false},
		{0x85, false, false, false}, {0x9F, false, false, false}, {0xA0, true, false, false}, {0xA1, false, true, false},
		{0xA2, false, false, false}, {0xA7, false, true, false}, {0xAA, false, false, false},
		{0xBF, false, false, false}, {0xC0, false, false, true}, {0xD7, false, false, true},
		{0x2002, false, false, true}, {0x2003, true, false, false}, {0x2004, false, false, true},
		{0x200F, false, false, true}, {0x2010, false, true, false},
		{0x2027, false, true, false}, {0x2028, false, false, true},
		{0x2FFF, false, false, true}, {0x3000, true, false, false}, {0x3001, false, true, false},
		{0x3002, false, true, false}, {0x3003, false, false, true},
		{0xFEFF, false, false, true}, {0xFFFC, false, false, true}, {0xFFFD, false, false, false}, {0xFFFE, false, false, true},
		{0x1F600, false, false, true}, {0x10FFFF, false, false, true},
	} {
		if Blank(c.r) != c.blank || Punct(c.r) != c.punct || Letter(c.r) != c.letter {
			t.Errorf("P2.1: %#x: Blank %v, Punct %v, Letter %v", c.r, Blank(c.r), Punct(c.r), Letter(c.r))
		}
	}
}

// Numbers that are no rune: below 0 they are of no kind, from U+00C0 on letters, as the words say ("any").
func TestKindsOfNumbersOfAnySize(t *testing.T) {
	for _, r := range []rune{math.MinInt32, math.MinInt32 + 'a', -0xC0, -'a', -' ', -1} {
		if Blank(r) || Punct(r) || Letter(r) {
			t.Errorf("P2.1, R1: %d: Blank %v, Punct %v, Letter %v", r, Blank(r), Punct(r), Letter(r))
		}
	}
	for _, r := range []rune{0xD800, 0xDFFF, utf8.MaxRune + 1, math.MaxInt32} {
		if Blank(r) || Punct(r) || !Letter(r) {
			t.Errorf("P2.1, R1: %#x: Blank %v, Punct %v, Letter %v", r, Blank(r), Punct(r), Letter(r))
		}
	}
}

// Each case: bytes, Text of them, Fold of them, their runes.
var cases = []struct {
	name, in, text, fold string
	runes                []rune
}{
	{"nothing", "", "", "", nil},
	{"one letter", "a", "a", "a", []rune{'a'}},
	{"all large and small", "AMZamz", "AMZamz", "amzamz", []rune{'A', 'M', 'Z', 'a', 'm', 'z'}},
	{"beside A to Z", "@[`{", "@[`{", "@[`{", []rune{'@', '[', '`', '{'}},
	{"large ones beyond A to Z stay", "\u00c0\u0130\u0391\u212a", "\u00c0\u0130\u0391\u212a", "\u00c0\u0130\u0391\u212a", []rune{0xC0, 0x130, 0x391, 0x212A}},
	{"blanks around", " A  b ", " A  b ", "a b", []rune{' ', 'A', ' ', ' ', 'b', ' '}},
	{"blanks alone", " \t\n\v\f\r\u00a0\u2003\u3000", " \t\n\v\f\r\u00a0\u2003\u3000", "", blanksAfterOne()},
	{"one blank", "\u3000", "\u3000", "", []rune{0x3000}},
	{"a run of unlike blanks", "a\u00a0\r\n\u2003b\t\u3000c", "a\u00a0\r\n\u2003b\t\u3000c", "a b c", []rune{'a', 0xA0, '\r', '\n', 0x2003, 'b', '\t', 0x3000, 'c'}},
	{"no blanks though they look so", "a\u0085\u2002\u2028b", "a\u0085\u2002\u2028b", "a\u0085\u2002\u2028b", []rune{'a', 0x85, 0x2002, 0x2028, 'b'}},
	{"rune 0", "\x00a\x00\x00", "\ufffda\ufffd\ufffd", "\x00a\x00\x00", []rune{0, 'a', 0, 0}},
	{"rune 0 between blanks", " \x00 ", " \ufffd ", "\x00", []rune{' ', 0, ' '}},
	{"U+FFFD itself", "\ufffd", "\ufffd", "\ufffd", []rune{0xFFFD}},
	{"two, three, four bytes", "\u00e9\u20ac\U0001f600", "\u00e9\u20ac\U0001f600", "\u00e9\u20ac\U0001f600", []rune{0xE9, 0x20AC, 0x1F600}},
	{"the least and the last of each length", "\u0080\u07ff\u0800\ud7ff\ue000\uffff\U00010000\U0010ffff", "\u0080\u07ff\u0800\ud7ff\ue000\uffff\U00010000\U0010ffff", "\u0080\u07ff\u0800\ud7ff\ue000\uffff\U00010000\U0010ffff", []rune{0x80, 0x7FF, 0x800, 0xD7FF, 0xE000, 0xFFFF, 0x10000, 0x10FFFF}},
	{"bytes that never belong", "\xff\xfe\xc0\xf5", "\ufffd\ufffd\ufffd\ufffd", "\ufffd\ufffd\ufffd\ufffd", lost(4)},
	{"a follower alone", "\x80", "\ufffd", "\ufffd", lost(1)},
	{"a beginning alone", "\xe2\x82", "\ufffd\ufffd", "\ufffd\ufffd", lost(2)},
	{"a beginning, then a letter", "\xf0\x9f\x98A", "\ufffd\ufffd\ufffdA", "\ufffd\ufffd\ufffda", append(lost(3), 'A')},
	{"a beginning, then a rune", "\xe2\u20ac", "\ufffd\u20ac", "\ufffd\u20ac", append(lost(1), 0x20AC)},
	{"a rune, then a follower", "\u20ac\xac", "\u20ac\ufffd", "\u20ac\ufffd", []rune{0x20AC, 0xFFFD}},
	{"longer than need be", "\xc0\x80\xe0\x9f\xbf\xf0\x8f\xbf\xbf", strings.Repeat("\ufffd", 9), strings.Repeat("\ufffd", 9), lost(9)},
	{"halves of a pair", "\xed\xa0\x80\xed\xb0\x80", strings.Repeat("\ufffd", 6), strings.Repeat("\ufffd", 6), lost(6)},
	{"past the last rune", "\xf4\x90\x80\x80", strings.Repeat("\ufffd", 4), strings.Repeat("\ufffd", 4), lost(4)},
	{"the bytes of blanks, in part", "\xe3\x80 \xc2", "\ufffd\ufffd \ufffd", "\ufffd\ufffd \ufffd", []rune{0xFFFD, 0xFFFD, ' ', 0xFFFD}},
	{"lost bytes are no blanks", " \xff \xa0 ", " \ufffd \ufffd ", "\ufffd \ufffd", []rune{' ', 0xFFFD, ' ', 0xFFFD, ' '}},
}

// lost gives n runes U+FFFD.
func lost(n int) []rune {
	return slices.Repeat([]rune{0xFFFD}, n)
}

// blanksAfterOne gives all blanks, byte 32 first.
func blanksAfterOne() []rune {
	return append([]rune{' '}, slices.DeleteFunc(slices.Clone(blanks), func(r rune) bool { return r == ' ' })...)
}

func TestText(t *testing.T) {
	for _, c := range cases {
		if got := Text([]byte(c.in)); got != c.text {
			t.Errorf("P2.1: %s: Text(%q) = %q, want %q", c.name, c.in, got, c.text)
		}
	}
}

func TestFold(t *testing.T) {
	for _, c := range cases {
		if got := Fold(c.in); got != c.fold {
			t.Errorf("P2.2: %s: Fold(%q) = %q, want %q", c.name, c.in, got, c.fold)
		}
	}
}

func TestFirstLastCount(t *testing.T) {
	for _, c := range cases {
		checkRunes(t, c.in, c.runes)
	}
}

// checkRunes holds First, Last and Count of s against its runes.
func checkRunes(t *testing.T, s string, want []rune) {
	t.Helper()
	var first, last rune
	if len(want) > 0 {
		first, last = want[0], want[len(want)-1]
	}
	if r, ok := First(s); r != first || ok != (len(want) > 0) {
		t.Errorf("P2.2: First(%q) = %#x, %v, want %#x", s, r, ok, first)
	}
	if r, ok := Last(s); r != last || ok != (len(want) > 0) {
		t.Errorf("P2.2: Last(%q) = %#x, %v, want %#x", s, r, ok, last)
	}
	if n := Count(s); n != len(want) {
		t.Errorf("P2.2: Count(%q) = %d, want %d", s, n, len(want))
	}
}

// Every text of up to four bytes, out of those that begin and go on in runes of each length.
func TestEveryShortText(t *testing.T) {
	const alphabet = "\x00 A\x80\x90\xa0\xbf\xc0\xc2\xe0\xe2\xed\xf0\xf4\xff"
	for n := range 5 {
		all := 1
		for range n {
			all *= len(alphabet)
		}
		b := make([]byte, n)
		for number := range all {
			for i := range b {
				b[i] = alphabet[number%len(alphabet)]
				number /= len(alphabet)
			}
			checkText(t, b)
			if t.Failed() {
				return
			}
		}
	}
}

// checkText holds what the package says of b against what its runes say, taken one after another from the left.
func checkText(t *testing.T, b []byte) {
	t.Helper()
	list := runesOf(b)
	checkRunes(t, string(b), list)
	text := make([]rune, len(list))
	for i, r := range list {
		text[i] = r
		if r == 0 {
			text[i] = 0xFFFD
		}
	}
	if got := Text(b); got != string(text) || Text([]byte(got)) != got {
		t.Errorf("P2.1: Text(%q) = %q, want %q", b, got, string(text))
	}
	words := strings.FieldsFunc(string(list), func(r rune) bool { return slices.Contains(blanks, r) })
	want := strings.ReplaceAll(strings.Join(words, " "), "A", "a")
	if got := Fold(string(b)); got != want || Fold(got) != got {
		t.Errorf("P2.2: Fold(%q) = %q, want %q", b, got, want)
	}
}

// runesOf parts b into runes by the tables of UTF-8: the shortest form alone, no halves of pairs, none past U+10FFFF.
func runesOf(b []byte) []rune {
	var list []rune
	for len(b) > 0 {
		r, n := rune(b[0]), 1
		for size := 2; size <= 4 && size <= len(b) && b[0] >= 0x80; size++ {
			if v, ok := ofSize(b[:size]); ok {
				r, n = v, size
				break
			}
		}
		if n == 1 && b[0] >= 0x80 {
			r = 0xFFFD
		}
		list = append(list, r)
		b = b[n:]
	}
	return list
}

// ofSize reads b, of two to four bytes, as one rune.
func ofSize(b []byte) (rune, bool) {
	head := []byte{2: 0xC0, 3: 0xE0, 4: 0xF0}[len(b)]
	mask := []byte{2: 0xE0, 3: 0xF0, 4: 0xF8}[len(b)]
	if b[0]&mask != head {
		return 0, false
	}
	r := rune(b[0] &^ mask)
	for _, x := range b[1:] {
		if x&0xC0 != 0x80 {
			return 0, false
		}
		r = r<<6 | rune(x&0x3F)
	}
	least := []rune{2: 0x80, 3: 0x800, 4: 0x10000}[len(b)]
	return r, r >= least && r <= 0x10FFFF && (r < 0xD800 || r > 0xDFFF)
}

func TestNilAndEmpty(t *testing.T) {
	for _, b := range [][]byte{nil, {}} {
		if Text(b) != "" {
			t.Errorf("P2.1, R4: Text of nothing = %q", Text(b))
		}
	}
}

func TestLongTexts(t *testing.T) {
	const n = 1 << 18
	if got := Fold(strings.Repeat("A \xff\u3000", n)); got != strings.Repeat("a \ufffd ", n-1)+"a \ufffd" {
		t.Error("P2.2: Fold of a long text")
	}
	if Fold(strings.Repeat(" ", n)) != "" || Fold("a"+strings.Repeat(" ", n)+"b") != "a b" {
		t.Error("P2.2: Fold of a long run of blanks")
	}
	if Text(make([]byte, n)) != strings.Repeat("\ufffd", n) || Count(strings.Repeat("\x80", n)) != n {
		t.Error("P2.1, P2.2: Text, Count of a long text")
	}
	// A text's last rune is asked for at each of its places: that must not cost its length each time.
	s := strings.Repeat("\u20ac", n)
	for at := 3; at <= len(s); at += 3 {
		if r, ok := Last(s[:at]); r != 0x20AC || !ok {
			t.Fatalf("P2.2: Last of %d bytes = %#x, %v", at, r, ok)
		}
	}
}

func TestBytesAreOnlyRead(t *testing.T) {
	whole := []byte("a\x00\xe2\x82\xac")
	was := bytes.Clone(whole)
	text := Text(whole[:4])
	if text != "a\ufffd\ufffd\ufffd" {
		t.Errorf("R5: Text = %q: spare room is read", text)
	}
	if !bytes.Equal(whole, was) {
		t.Errorf("R2: the bytes are now %q", whole)
	}
	plain := []byte("plain")
	text = Text(plain)
	plain[0] = 'x'
	if text != "plain" {
		t.Errorf("R2: Text shares memory with the bytes: %q", text)
	}
}
