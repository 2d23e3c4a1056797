package inline

import (
	"strconv"
	"strings"
	"testing"
	"unicode/utf8"
	"unsafe"

	"selvedge/api"
	"selvedge/esc"
)

func TestText(t *testing.T) {
	for _, c := range []struct {
		name string
		list []api.Inline
		want string
	}{
		{"nothing", nil, ""},
		{"an empty list", []api.Inline{}, ""},
		{"Plain", []api.Inline{{Kind: api.Plain, Text: "a"}}, "a"},
		{"Code", []api.Inline{{Kind: api.Code, Text: "a"}}, "a"},
		{"a row", []api.Inline{{Text: "a"}, {Kind: api.Code, Text: "b"}, {Text: "c"}}, "abc"},
		{"Soft", []api.Inline{{Text: "a"}, {Kind: api.Soft}, {Kind: api.Soft}, {Text: "b"}}, "a  b"},
		{"Kids", []api.Inline{{Kind: api.Em, Kids: []api.Inline{{Text: "a"}, {Kind: api.Strong, Kids: []api.Inline{{Text: "b"}}}, {Text: "c"}}}, {Text: "d"}}, "abcd"},
		{"a Link's Dest is no text", []api.Inline{{Kind: api.Link, Dest: "a", Kids: []api.Inline{{Text: "b"}}}}, "b"},
		{"Soft in a Link", []api.Inline{{Kind: api.Link, Dest: "a", Kids: []api.Inline{{Kind: api.Soft}}}}, " "},
		{"Soft that has a Text, and Kids", []api.Inline{{Kind: api.Soft, Text: "a", Kids: []api.Inline{{Text: "b"}, {Kind: api.Soft}}}}, " ab "},
		{"Texts of those that have none of their own", []api.Inline{{Kind: api.Em, Text: "a", Kids: []api.Inline{{Text: "b"}}}, {Kind: api.Link, Text: "c"}}, "abc"},
		{"other kinds", []api.Inline{{Kind: 9, Text: "a", Kids: []api.Inline{{Text: "b"}}}, {Kind: -1, Text: "c"}}, "abc"},
		{"signs stay", []api.Inline{{Text: "\\*a* & \n"}, {Kind: api.Code, Text: "`\n"}}, "\\*a* & \n`\n"},
		{"bytes of no rune stay", []api.Inline{{Text: "\xff\x00"}, {Kind: api.Code, Text: "\xe2"}}, "\xff\x00\xe2"},
	} {
		if got := Text(c.list); got != c.want {
			t.Errorf("P12.1: %s: Text = %q, want %q", c.name, got, c.want)
		}
	}
}

// nested gives a text within inlines, each of which is the only one in the next.
func nested(deep int, text string) []api.Inline {
	l := []api.Inline{{Text: text}}
	for range deep - 1 {
		l = []api.Inline{{Kind: api.Em, Kids: l}}
	}
	return l
}

func TestTextEnds(t *testing.T) {
	if got := Text(nested(1<<16, "a")); got != "a" {
		t.Errorf("P12.1: Text of what is nested as deep as may be = %q", got)
	}
	Text(nested(1<<22, "a"))
	ring := []api.Inline{{Text: "a"}}
	ring[0].Kids = ring
	if got := Text(ring); strings.Trim(got, "a") != "" {
		t.Error("R1: Text of a row that is among its own Kids says what isn't in it")
	}
	// Two ways on in each: without an end to what is said it would not come back.
	rings := []api.Inline{{Text: "a"}, {Text: "bc"}}
	rings[0].Kids, rings[1].Kids = rings, rings
	for room := range 200 {
		some := telling{room: room}
		some.tell(rings, 1)
		if n := some.text.Len(); n > room || some.room < 0 {
			t.Errorf("R1: of room for %d, %d bytes are taken, and %d are left", room, n, some.room)
		}
	}
	for _, c := range []struct {
		room int
		want string
	}{{0, ""}, {1, ""}, {2, "a"}, {4, "a"}, {5, "abc"}, {7, "abc"}} {
		some := telling{room: c.room}
		some.tell([]api.Inline{{Text: "a"}, {Text: "bc"}, {Text: "def"}, {Text: "g"}}, 1)
		if got := some.text.String(); got != c.want {
			t.Errorf("R1: of room for %d, %q is said, want %q", c.room, got, c.want)
		}
	}
}

// Each rune alone, between letters, and behind a \.
func TestParseEveryRune(t *testing.T) {
	check := func(s, want string) {
		if got := Parse(s); tell(got) != want {
			t.Errorf("P12.1: Parse(%q) = %s, want %s", s, tell(got), want)
		}
	}
	for r := range rune(0x3100) {
		c := string(r)
		if r == '\n' {
			check("a\nb", `"a" soft "b"`)
			check("a\\\nb", `"a\\" soft "b"`)
			continue
		}
		check(c, strconv.Quote(c))
		check("a"+c+"b", strconv.Quote("a"+c+"b"))
		said := "\\" + c
		if strings.ContainsRune("!\"#$%&'()*+,-./:;<=>?@[\\]^_`{|}~", r) {
			said = c
		}
		check("a\\"+c+"b", strconv.Quote("a"+said+"b"))
		check("`"+c+"`", map[bool]string{false: "code" + strconv.Quote(c), true: "\"```\""}[r == '`'])
	}
	for b := range 128 {
		check("a"+string([]byte{byte(b + 128)})+"b", strconv.Quote("a\ufffdb"))
	}
}

func TestParseQuoted(t *testing.T) {
	every(t, 5, []string{"*", "_", "a", " ", "\\", "`", "[", "](b)", "<ab:c>", "\u00e9"}, func(t *testing.T, s string) {
		got := Parse(esc.Quote(s))
		if s != "" && tell(got) != strconv.Quote(s) || s == "" && len(got) > 0 {
			t.Errorf("P12.1: Parse(%q) = %s, want the Plain %q", esc.Quote(s), tell(got), s)
		}
	})
}

// Texts in which looking to the end at each place would not end soon.
func TestParseLongTexts(t *testing.T) {
	const n = 1 << 18
	many := func(s string) string { return strings.Repeat(s, n) }
	var rising strings.Builder
	for count := range 700 {
		rising.WriteString(strings.Repeat("`", count+1) + "a")
	}
	for _, c := range []struct {
		name, in, text string
		length         int
	}{
		{"letters", many("ab"), many("ab"), 1},
		{"bytes of no rune", many("\xff"), many("\ufffd"), 1},
		{"escaped signs", many("\\*"), many("*"), 1},
		{"ends of lines", many("\n"), many(" "), n},
		{"[ that are not closed", many("["), many("["), 1},
		{"[ and ]", many("[]"), many("[]"), 1},
		{"[ in one another", many("[") + many("]"), many("[") + many("]"), 1},
		{"[ that are not closed, and a link", many("[") + "a](b)", many("[")[1:] + "a", 2},
		{"[ and escaped ]", many("[\\]"), many("[]"), 1},
		{"[ and code", many("[`]`"), many("[]"), 2 * n},
		{"[ and what is nearly an Auto", many("[<ab:"), many("[<ab:"), 1},
		{"links in one another", many("[") + many("](b)"), many("[")[1:] + many("](b)")[4:], 1},
		{"links behind one another", many("[a](b)"), many("a"), n},
		{"destinations that are not closed", many("[a]("), many("[a]("), 1},
		{"links behind [ that are not closed", many("[[a](b)"), many("[a"), 2 * n},
		{"links that begin code in their destinations", many("[[a](`)"), many("[a"), 2 * n},
		{"links that begin code, to no end", many("[[a](`b)") + "`", many("[a") + "`", 2*n + 1},
		{"links that begin Autos in their destinations", many("[[a](<bc:)[>"), many("[a[>"), 2*n + 1},
		{"the same, and much behind", strings.Repeat("[[a](<bc:)[>", n/16) + many("a"), strings.Repeat("[a[>", n/16) + many("a"), n/8 + 1},
		{"Autos", many("<ab:>"), many("ab:"), n},
		{"what is nearly an Auto", many("<ab:"), many("<ab:"), 1},
		{"code", many("`a` "), many("a "), 2 * n},
		{"a run of `", many("`"), many("`"), 1},
		{"runs of ` of lengths that never come twice", rising.String(), rising.String(), 1},
		{"[ and runs of ` of lengths that never come twice", many("[") + rising.String(), many("[") + rising.String(), 1},
		{"a run", many("*"), many("*"), 1},
		{"stress", many("*a* "), many("a "), 2 * n},
		{"runs that open", many("*a "), many("*a "), 1},
		{"runs that close", many("a* "), many("a* "), 1},
		{"runs that do both", many("a*b*"), many("ab"), 2 * n},
		{"runs in one another", strings.Repeat("*a ", 1<<15) + strings.Repeat("b* ", 1<<15), strings.Repeat("a ", 1<<15) + strings.Repeat("b ", 1<<15), 2},
		{"runs that are left", many("**a* "), many("*a "), 2*n + 1},
		{"runs of much", strings.Repeat("*", n) + "a" + strings.Repeat("*", n), many("*")[100:] + "a" + many("*")[100:], 3},
		{"runs behind an escaped sign", many("\\**"), many("**"), 1},
		{"runs in a link", "[" + many("*a* ") + "](b)", many("a "), 1},
	} {
		l := Parse(c.in)
		if len(l) != c.length {
			t.Errorf("P12.1: %s: %d inlines, want %d", c.name, len(l), c.length)
		}
		if got := Text(l); got != c.text {
			t.Errorf("P12.1: %s: a Text of %d bytes, want %d", c.name, len(got), len(c.text))
		}
	}
}

// lists gives all lists in l that have room, l first.
func lists(l []api.Inline) [][]api.Inline {
	all := [][]api.Inline{l}
	for _, x := range l {
		all = append(all, lists(x.Kids)...)
	}
	return all
}

func TestAnswersAreNewMemory(t *testing.T) {
	const in = "*a _b_* `c` **d** <ef:g> [h *i* `j`\nk](l) m\n__*n* o__ [](p) ***q** r*"
	whole := []byte(in + " [s](t)")
	s := unsafe.String(unsafe.SliceData(whole), len(in))
	got, want := Parse(s), tell(Parse(in))
	if string(whole) != in+" [s](t)" {
		t.Errorf("R2: the text is now %q", whole)
	}
	for i := range whole {
		whole[i] = 'x'
	}
	if tell(got) != want {
		t.Error("R2: inlines share memory with the text")
	}
	for i, l := range lists(got) {
		room := l[len(l):cap(l)]
		for j := range room {
			room[j] = api.Inline{Kind: -1, Text: strconv.Itoa(i)}
		}
	}
	if tell(got) != want {
		t.Error("R2: two lists of one answer share memory")
	}
	for i, l := range lists(got) {
		for j, x := range l[len(l):cap(l)] {
			if x.Text != strconv.Itoa(i) {
				t.Fatalf("R2: place %d of list %d's room is of list %s, too", j, i, x.Text)
			}
		}
	}
	if again := Parse(in); tell(again) != want {
		t.Errorf("R4: Parse = %s, then %s", want, tell(again))
	}
}

func TestTextKeepsNothing(t *testing.T) {
	whole := []api.Inline{{Text: "a"}, {Kind: api.Em, Kids: []api.Inline{{Text: "b"}}}, {Kind: api.Soft}, {Text: "behind"}}
	was := tell(whole)
	got := Text(whole[:3])
	if got != "ab " {
		t.Errorf("R5: Text = %q: spare room is read", got)
	}
	if tell(whole) != was {
		t.Errorf("R2: the inlines are now %s", tell(whole))
	}
	word := []byte("word")
	got = Text([]api.Inline{{Text: unsafe.String(unsafe.SliceData(word), len(word))}})
	clear(word)
	if got != "word" || !utf8.ValidString(got) {
		t.Errorf("R2: Text gave %q: it shares memory with the inlines", got)
	}
}
