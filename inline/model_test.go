package inline

import (
	"math/rand"
	"slices"
	"strconv"
	"strings"
	"testing"

	"selvedge/code"
	"selvedge/emph"
	"selvedge/esc"
	"selvedge/link"
)

// part is a piece of a text of the model: a plain rune, a sign of a run, or words of tell.
type part struct {
	plain string
	run   int // 1 and more: of which run a sign is that no pair has taken
	words string
}

// model reads s as the chapter says it, clause by clause, and tells its inlines as tell does. It asks link.Close at each [, and takes the signs of runs one by one.
func model(s string, linked bool) string {
	var parts []part
	var runs []emph.Run
	for at := 0; at < len(s); {
		p, end := modelPart(s, at, linked)
		if run, behind, ok := emph.Kind(s, at); ok && p.words == "" {
			runs = append(runs, run)
			parts = append(parts, slices.Repeat([]part{{plain: string(rune(run.Char)), run: len(runs)}}, run.Count)...)
			end = behind
		} else {
			parts = append(parts, p)
		}
		at = end
	}
	for _, pair := range emph.Match(runs) {
		takeSigns(parts, pair)
	}
	return joinParts(parts)
}

// modelPart reads what begins in s at at, if that is no run: what it is, and where it ends.
func modelPart(s string, at int, linked bool) (part, int) {
	if text, end, ok := code.Span(s, at); ok {
		return part{words: "code" + strconv.Quote(text)}, end
	}
	if s[at] == '`' {
		end := at
		for end < len(s) && s[end] == '`' {
			end++
		}
		return part{plain: s[at:end]}, end
	}
	if dest, end, ok := link.Auto(s, at); ok && !linked {
		return part{words: "link" + strconv.Quote(dest) + "(" + strconv.Quote(string([]rune(dest))) + ")"}, end
	}
	if to, ok := link.Close(s, at); ok && !linked {
		if dest, end, ok := link.Dest(s, to+1); ok {
			return part{words: "link" + strconv.Quote(dest) + "(" + model(s[at+1:to], true) + ")"}, end
		}
	}
	if s[at] == '\n' {
		return part{words: "soft"}, at + 1
	}
	r, end, _ := esc.Next(s, at)
	return part{plain: string(r)}, end
}

// takeSigns puts words in the place of the signs that pair takes: of the one run its last ones, of the other its first ones.
func takeSigns(parts []part, pair emph.Pair) {
	opening, closing := signsOf(parts, pair.Open+1), signsOf(parts, pair.Close+1)
	for i := range pair.Size {
		parts[opening[len(opening)-1-i]] = part{}
		parts[closing[i]] = part{}
	}
	words := [3]string{1: "em(", 2: "strong("}
	parts[opening[len(opening)-1]].words = words[pair.Size]
	parts[closing[0]].words = ")"
}

// signsOf gives the places in parts of the signs of a run that no pair has taken.
func signsOf(parts []part, run int) []int {
	var l []int
	for i, p := range parts {
		if p.run == run {
			l = append(l, i)
		}
	}
	return l
}

// joinParts tells parts as tell does: plain ones side by side as one.
func joinParts(parts []part) string {
	var l []string
	plain := ""
	for i, p := range parts {
		plain += p.plain
		if plain != "" && (p.words != "" || i == len(parts)-1) {
			l = append(l, strconv.Quote(plain))
			plain = ""
		}
		if p.words != "" {
			l = append(l, p.words)
		}
	}
	text := ""
	for i, words := range l {
		if i > 0 && words != ")" && l[i-1] != "em(" && l[i-1] != "strong(" {
			text += " "
		}
		text += words
	}
	return text
}

// every hands check each text of up to most of the pieces.
func every(t *testing.T, most int, pieces []string, check func(t *testing.T, s string)) {
	t.Helper()
	for n := range most + 1 {
		all := 1
		for range n {
			all *= len(pieces)
		}
		for number := range all {
			var text strings.Builder
			for range n {
				text.WriteString(pieces[number%len(pieces)])
				number /= len(pieces)
			}
			check(t, text.String())
			if t.Failed() {
				return
			}
		}
	}
}

// checkModel holds Parse of s against the model.
func checkModel(t *testing.T, s string) {
	t.Helper()
	l := Parse(s)
	if got, want := tell(l), model(s, false); got != want {
		t.Errorf("P12.1: Parse(%q):\n got %s\nwant %s", s, got, want)
	}
	checkShape(t, s, l, false)
}

func TestParseEveryShortText(t *testing.T) {
	all := []string{"*", "_", "a", " ", "\n", "\\", "`", "[", "]", "(", ")", "<ab:", ">", "\u00e9", "\xe2", "\u3000"}
	every(t, 4, all, checkModel)
	every(t, 7, []string{"*", "_", "a", " ", "."}, checkModel)
	every(t, 6, []string{"*", "a", "\\", "`", "\n", " "}, checkModel)
	every(t, 5, []string{"[", "](", "]", ")", "`", "<ab:", ">", "\\", "*"}, checkModel)
	every(t, 5, []string{"[", "](", ")", "](b)", "*", "a*"}, checkModel)
	// Between brackets, and on both of their sides.
	every(t, 4, []string{"[", "]", "(", "`", "<ab:", ">", "\\", "*", "\n"}, func(t *testing.T, s string) { checkModel(t, "*["+s+"](*b)*") })
	every(t, 5, []string{"*", "**", "_", "a", "[", "](b)"}, func(t *testing.T, s string) { checkModel(t, s+"*") })
}

func TestParseRandomTexts(t *testing.T) {
	r := rand.New(rand.NewSource(12))
	sets := [][]string{
		{"*", "**", "***", "_", "__", "a", " ", "."},
		{"*", "*", "a", "b", " "},
		{"[", "[", "](", "](b)", "](`)", "](<ab:)", ")", "`", "``", "<ab:", ">", "*", "a"},
		{"*", "_", "a", " ", "\n", "\\", "`", "[", "]", "(", ")", "](b)", "<ab:", ">", "!", "\u00e9", "\xff", "\x00", "\u3000", "\u2014"},
	}
	for range 20000 {
		set := sets[r.Intn(len(sets))]
		var text strings.Builder
		for range r.Intn(40) {
			text.WriteString(set[r.Intn(len(set))])
		}
		checkModel(t, text.String())
	}
	for range 5000 {
		b := make([]byte, r.Intn(30))
		for i := range b {
			b[i] = byte(r.Intn(256))
		}
		checkModel(t, string(b))
	}
	// Runs that have more signs than emph.Match reckons with.
	for range 300 {
		var text strings.Builder
		for range r.Intn(8) {
			text.WriteString(strings.Repeat([]string{"*", "_"}[r.Intn(2)], r.Intn(150)))
			text.WriteString([]string{"a", " ", "b", "."}[r.Intn(4)])
		}
		checkModel(t, text.String())
	}
}

// checkEnds holds what brackets tell of s against link.Close, asked from the left, from the right, and of one alone.
func checkEnds(t *testing.T, s string) {
	t.Helper()
	left := brackets{text: s, ends: map[int]int{}}
	right := brackets{text: s, ends: map[int]int{}}
	for i := range len(s) {
		checkEnd(t, &left, i)
		checkEnd(t, &right, len(s)-1-i)
		checkEnd(t, &brackets{text: s, ends: map[int]int{}}, i)
	}
}

func checkEnd(t *testing.T, b *brackets, at int) {
	t.Helper()
	if b.text[at] != '[' {
		return
	}
	end, ok := b.end(at)
	if wantEnd, want := link.Close(b.text, at); end != wantEnd || ok != want {
		t.Errorf("P12.1: in %q the [ at %d is closed at %d, %v, want %d, %v", b.text, at, end, ok, wantEnd, want)
	}
}

func TestEndsOfEveryShortText(t *testing.T) {
	every(t, 5, []string{"[", "]", "\\", "`", "<ab:", ">", "a"}, checkEnds)
	every(t, 8, []string{"[", "]", "`"}, checkEnds)
	every(t, 6, []string{"[", "]", "`", "``", "\\"}, checkEnds)
	r := rand.New(rand.NewSource(13))
	for range 20000 {
		var text strings.Builder
		for range r.Intn(60) {
			text.WriteString([]string{"[", "[", "]", "]", "](`)", "`", "``", "<ab:", ">", "\\", "a", "\xff"}[r.Intn(12)])
		}
		checkEnds(t, text.String())
	}
}
