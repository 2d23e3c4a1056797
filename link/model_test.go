package link

import (
	"regexp"
	"strings"
	"testing"
)

const (
	blankSet = `\t\n\v\f\r \x{a0}\x{2003}\x{3000}`
	signSet  = "!-/:-@\\[-`{-~"
)

var (
	wholeAuto = regexp.MustCompile(`^<([a-z]{2,12}:[^<>` + blankSet + `]*)>`)
	wholeRun  = regexp.MustCompile("`+")
	oneSign   = regexp.MustCompile(`(?s)^\\[` + signSet + `]|^.`)
	anyBlank  = regexp.MustCompile(`[` + blankSet + `]`)
	noLetter  = regexp.MustCompile(`[^a-zA-Z]+`)
)

// autoByPattern reads an Auto as a whole.
func autoByPattern(s string, at int) found {
	if at < 0 || at > len(s) {
		return found{}
	}
	if m := wholeAuto.FindStringSubmatch(s[at:]); m != nil {
		return found{m[1], at + len(m[0]), true}
	}
	return found{}
}

// codeEnd gives where the code that begins in s at at ends, held against all whole runs: 0 of none.
func codeEnd(s string, at int) int {
	size := 0
	for _, run := range wholeRun.FindAllStringIndex(s, -1) {
		if run[0] == at {
			size = run[1] - run[0]
		} else if size > 0 && run[1]-run[0] == size {
			return run[1]
		}
	}
	return 0
}

// masked gives s with an x in the place of each byte, from at on, that is part of an escape, of code or of an Auto.
func masked(s string, at int) string {
	b := []byte(s)
	for at < len(s) {
		end := at + len(oneSign.FindString(s[at:]))
		mask := end-at > 1
		if s[at] == '`' && codeEnd(s, at) > 0 {
			end, mask = codeEnd(s, at), true
		}
		if a := autoByPattern(s, at); a.ok {
			end, mask = a.end, true
		}
		for i := at; mask && i < end; i++ {
			b[i] = 'x'
		}
		at = end
	}
	return string(b)
}

// closeByCount looks for the first ] up to which there are as many [ as ].
func closeByCount(s string, at int) place {
	if at < 0 || at >= len(s) || s[at] != '[' {
		return place{}
	}
	m := masked(s, at)
	for to := at + 1; to <= len(m); to++ {
		if strings.Count(m[at:to], "[") == strings.Count(m[at:to], "]") {
			return place{to - 1, true}
		}
	}
	return place{}
}

// destBySigns reads a Dest by the signs of s, one after another.
func destBySigns(s string, at int) found {
	if at < 0 || at >= len(s) || s[at] != '(' {
		return found{}
	}
	text := ""
	for at++; at < len(s); {
		sign := oneSign.FindString(s[at:])
		at += len(sign)
		if sign == ")" {
			return found{text, at, true}
		}
		if sign == "(" || anyBlank.MatchString(sign) {
			return found{}
		}
		if len(sign) == 2 && sign[0] == '\\' {
			sign = sign[1:]
		}
		text += strings.ToValidUTF8(sign, "\ufffd")
	}
	return found{}
}

// safeByParts reads what is ahead of each :.
func safeByParts(s string) bool {
	parts := strings.Split(s, ":")
	word := noLetter.ReplaceAllString(parts[0], "")
	bad := len(parts) > 1 && (strings.EqualFold(word, "javascript") || strings.EqualFold(word, "data"))
	return !bad && (s == "" || s[0] != '#')
}

// every hands check each text of up to most of the pieces.
func every(t *testing.T, most int, pieces []string, check func(t *testing.T, s string)) {
	t.Helper()
	for n := range most + 1 {
		all := 1
		for range n {
			all *= len(pieces)
		}
		for number := range all {
			var text strings.Builder
			for range n {
				text.WriteString(pieces[number%len(pieces)])
				number /= len(pieces)
			}
			check(t, text.String())
			if t.Failed() {
				return
			}
		}
	}
}

func TestAutoOfEveryShortText(t *testing.T) {
	check := func(t *testing.T, s string) {
		for at := -1; at <= len(s)+1; at++ {
			if got, want := autoAt(s, at), autoByPattern(s, at); got != want {
				t.Errorf("P11.1: Auto(%q, %d) = %#v, want %#v", s, at, got, want)
			}
		}
	}
	every(t, 5, []string{"<", ">", ":", "a", "bcdefg", "B", " ", "\\", "\u3000", "\xe3"}, check)
	// Behind a <, up to a >.
	every(t, 6, []string{"<", ">", ":", "a", "bcdefg"}, func(t *testing.T, s string) { check(t, "<"+s+">") })
	every(t, 4, []string{"<", ">", ":", "a", "\t", "\\", "`", "\u2003", "\xe2"}, func(t *testing.T, s string) { check(t, "<ab:"+s+">") })
}

func TestCloseOfEveryShortText(t *testing.T) {
	check := func(t *testing.T, s string) {
		for at := -1; at <= len(s)+1; at++ {
			if got, want := closeAt(s, at), closeByCount(s, at); got != want {
				t.Errorf("P11.1: Close(%q, %d) = %v, want %v", s, at, got, want)
			}
		}
	}
	every(t, 5, []string{"[", "]", "\\", "`", "<ab:", ">", "a", " ", "\xe2"}, check)
	// Behind a [, up to a ].
	every(t, 8, []string{"[", "]", "\\", "`"}, func(t *testing.T, s string) { check(t, "["+s+"]") })
	every(t, 6, []string{"]", "\\", "`", "``", "<ab:", ">"}, func(t *testing.T, s string) { check(t, "["+s+"]") })
}

func TestDestOfEveryShortText(t *testing.T) {
	check := func(t *testing.T, s string) {
		for at := -1; at <= len(s)+1; at++ {
			if got, want := destAt(s, at), destBySigns(s, at); got != want {
				t.Errorf("P11.1: Dest(%q, %d) = %#v, want %#v", s, at, got, want)
			}
		}
	}
	every(t, 5, []string{"(", ")", "\\", "a", "*", " ", "\u3000", "\u2014", "\xe3"}, check)
	// Behind a (, up to a ).
	every(t, 6, []string{"(", ")", "\\", "a", "\n", "\x80"}, func(t *testing.T, s string) { check(t, "("+s+")") })
}

func TestSafeOfEveryShortText(t *testing.T) {
	pieces := []string{"#", ":", "data", "DA", "ta", "java", "Script", "1", " ", "\u017f", "\xe9"}
	every(t, 5, pieces, func(t *testing.T, s string) {
		if got, want := Safe(s), safeByParts(s); got != want {
			t.Errorf("P11.1: Safe(%q): %v, want %v", s, got, want)
		}
	})
}
