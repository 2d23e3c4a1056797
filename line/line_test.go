package line

import (
	"bytes"
	"slices"
	"strings"
	"testing"
)

// Each case: bytes, their lines, the lines' texts, the first line's end.
var cases = []struct {
	name  string
	in    string
	lines []Line
	texts []string
	last  string
}{
	{"nothing", "", nil, nil, ""},
	{"no end", "a", []Line{{0, 1, 1}}, []string{"a"}, ""},
	{"byte 10 alone", "\n", []Line{{0, 0, 1}}, []string{""}, "\n"},
	{"byte 13 alone", "\r", []Line{{0, 0, 1}}, []string{""}, "\r"},
	{"the pair alone", "\r\n", []Line{{0, 0, 2}}, []string{""}, "\r\n"},
	{"the pair turned round", "\n\r", []Line{{0, 0, 1}, {1, 1, 2}}, []string{"", ""}, "\n"},
	{"ends with byte 10", "ab\ncd\n", []Line{{0, 2, 3}, {3, 5, 6}}, []string{"ab", "cd"}, "\n"},
	{"something behind the last end", "ab\ncd", []Line{{0, 2, 3}, {3, 5, 5}}, []string{"ab", "cd"}, "\n"},
	{"byte 13 then a text", "ab\rcd", []Line{{0, 2, 3}, {3, 5, 5}}, []string{"ab", "cd"}, "\r"},
	{"byte 13 last", "ab\r", []Line{{0, 2, 3}}, []string{"ab"}, "\r"},
	{"all ends", "a\r\n\rb", []Line{{0, 1, 3}, {3, 3, 4}, {4, 5, 5}}, []string{"a", "", "b"}, "\r\n"},
	{"13 13 10 10", "\r\r\n\n", []Line{{0, 0, 1}, {1, 1, 3}, {3, 3, 4}}, []string{"", "", ""}, "\r"},
	{"empty lines", "\n\nx\n\n", []Line{{0, 0, 1}, {1, 1, 2}, {2, 3, 4}, {4, 4, 5}}, []string{"", "", "x", ""}, "\n"},
	{"other breaks end no line", "a\v\f\x00b", []Line{{0, 5, 5}}, []string{"a\v\f\x00b"}, ""},
	{"runes that break elsewhere", "\u0085\u2028\u2029", []Line{{0, 8, 8}}, []string{"\u0085\u2028\u2029"}, ""},
	{"bytes of no rune", "\xff\xe2\n\x80", []Line{{0, 2, 3}, {3, 4, 4}}, []string{"\xff\xe2", "\x80"}, "\n"},
	{"blanks stay", " a \t\n", []Line{{0, 4, 5}}, []string{" a \t"}, "\n"},
}

func TestSplit(t *testing.T) {
	for _, c := range cases {
		if got := Split([]byte(c.in)); !slices.Equal(got, c.lines) {
			t.Errorf("P1.1: %s: Split(%q) = %v, want %v", c.name, c.in, got, c.lines)
		}
	}
}

func TestTexts(t *testing.T) {
	for _, c := range cases {
		if got := Texts([]byte(c.in)); !slices.Equal(got, c.texts) {
			t.Errorf("P1.1: %s: Texts(%q) = %q, want %q", c.name, c.in, got, c.texts)
		}
	}
}

func TestLast(t *testing.T) {
	for _, c := range cases {
		if got := Last([]byte(c.in)); got != c.last {
			t.Errorf("P1.1: %s: Last(%q) = %q, want %q", c.name, c.in, got, c.last)
		}
	}
}

func TestJoin(t *testing.T) {
	for _, c := range []struct {
		l         []string
		end, want string
	}{
		{nil, "\n", ""},
		{[]string{}, "\n", ""},
		{nil, "", ""},
		{[]string{""}, "", ""},
		{[]string{""}, "\n", "\n"},
		{[]string{"a"}, "\r\n", "a\r\n"},
		{[]string{"a", "", "b"}, "\r", "a\r\rb\r"},
		{[]string{"a", "b"}, "", "ab"},
		{[]string{"a\nb", "\xff"}, "..", "a\nb..\xff.."},
	} {
		if got := Join(c.l, c.end); string(got) != c.want {
			t.Errorf("P1.1: Join(%q, %q) = %q, want %q", c.l, c.end, got, c.want)
		}
	}
}

func TestNilAndEmpty(t *testing.T) {
	for _, b := range [][]byte{nil, {}} {
		if len(Split(b)) != 0 || len(Texts(b)) != 0 || Last(b) != "" {
			t.Errorf("P1.1, R4: of nothing: %v, %q, %q", Split(b), Texts(b), Last(b))
		}
	}
}

// eachText calls f with every text of at most most bytes out of signs.
func eachText(signs string, most int, f func(string)) {
	level := []string{""}
	for range most + 1 {
		var next []string
		for _, s := range level {
			f(s)
			for i := range len(signs) {
				next = append(next, s+signs[i:i+1])
			}
		}
		level = next
	}
}

func TestEveryShortText(t *testing.T) {
	oneEnd := strings.NewReplacer("\r\n", "\n", "\r", "\n")
	eachText("ab\n\r", 7, func(s string) {
		var want []string
		for _, text := range strings.SplitAfter(oneEnd.Replace(s), "\n") {
			if text != "" {
				want = append(want, strings.TrimSuffix(text, "\n"))
			}
		}
		b := []byte(s)
		if got := Texts(b); !slices.Equal(got, want) {
			t.Fatalf("P1.1: Texts(%q) = %q, want %q", s, got, want)
		}
		lines := Split(b)
		if len(lines) != len(want) {
			t.Fatalf("P1.1: Split(%q) = %v, want %d lines", s, lines, len(want))
		}
		at, ends := 0, ""
		for i, l := range lines {
			if l.At != at || s[l.At:l.End] != want[i] {
				t.Fatalf("P1.1: Split(%q) = %v: line %d", s, lines, i)
			}
			ends += s[l.End:l.Next]
			at = l.Next
		}
		if at != len(s) || ends != strings.NewReplacer("a", "", "b", "").Replace(s) {
			t.Fatalf("P1.1: Split(%q) = %v: ends %q", s, lines, ends)
		}
		first := ""
		if len(lines) > 0 {
			first = s[lines[0].End:lines[0].Next]
		}
		if got := Last(b); got != first {
			t.Fatalf("P1.1: Last(%q) = %q, want %q", s, got, first)
		}
	})
}

func TestTextsOfJoin(t *testing.T) {
	for _, l := range [][]string{
		nil,
		{},
		{""},
		{"", ""},
		{"a"},
		{"", "a", ""},
		{"a", "", "", "b"},
		{" a ", "\t", "\xff\x00", "\u2028"},
	} {
		if got := Texts(Join(l, "\n")); !slices.Equal(got, l) {
			t.Errorf("P1.2: Texts(Join(%q)) = %q", l, got)
		}
	}
	eachText("ab,", 7, func(s string) {
		l := strings.Split(s, ",")
		if got := Texts(Join(l, "\n")); !slices.Equal(got, l) {
			t.Fatalf("P1.2: Texts(Join(%q)) = %q", l, got)
		}
	})
}

// What P1.2 leaves out: a text that itself has an end comes back in parts.
func TestTextsOfJoinWithEndsWithin(t *testing.T) {
	for _, c := range []struct{ l, want []string }{
		{[]string{"a\nb"}, []string{"a", "b"}},
		{[]string{"a\rb", "c"}, []string{"a", "b", "c"}},
		{[]string{"a\r", "b"}, []string{"a", "b"}},
	} {
		if got := Texts(Join(c.l, "\n")); !slices.Equal(got, c.want) {
			t.Errorf("P1.1: Texts(Join(%q)) = %q, want %q", c.l, got, c.want)
		}
	}
}

func TestSpareRoomIsNotRead(t *testing.T) {
	b := []byte("a\r\nb")[:2]
	if got := Split(b); !slices.Equal(got, []Line{{0, 1, 2}}) {
		t.Errorf("R5: Split = %v", got)
	}
	if got := Texts(b); !slices.Equal(got, []string{"a"}) {
		t.Errorf("R5: Texts = %q", got)
	}
	if got := Last(b); got != "\r" {
		t.Errorf("R5: Last = %q", got)
	}
	if got := Last([]byte("\n")[:0]); got != "" {
		t.Errorf("R5: Last of nothing = %q", got)
	}
	if got := Join([]string{"a", "b"}[:1], "\n"); string(got) != "a\n" {
		t.Errorf("R5: Join = %q", got)
	}
}

func TestArgumentsAreNotChanged(t *testing.T) {
	whole := []byte("a\r\nb\rc__")
	was := bytes.Clone(whole)
	b := whole[:6]
	Split(b)
	Texts(b)
	Last(b)
	if !bytes.Equal(whole, was) {
		t.Errorf("R2: the bytes are now %q", whole)
	}
	texts := []string{"a", "b", "spare"}
	Join(texts[:2], "\n")
	if !slices.Equal(texts, []string{"a", "b", "spare"}) {
		t.Errorf("R2: the texts are now %q", texts)
	}
}

func TestAnswersAreNewMemory(t *testing.T) {
	b := []byte("a\r\nb")
	texts, last := Texts(b), Last(b)
	for i := range b {
		b[i] = 'x'
	}
	if !slices.Equal(texts, []string{"a", "b"}) || last != "\r\n" {
		t.Errorf("R2: Texts, Last share memory with the bytes: %q, %q", texts, last)
	}
	l := []string{"a"}
	one, two := Join(l, "\n"), Join(l, "\n")
	one[0] = 'x'
	if string(two) != "a\n" || l[0] != "a" {
		t.Errorf("R2: Join shares memory: %q, %q", two, l)
	}
}
