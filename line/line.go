// Package line: lines: see doc/01-line.md.
package line

// Line is where a line lies in its bytes: its text from At to End, what ends it from End to Next.
type Line struct {
	At, End, Next int
}

// Split parts b into its lines.
func Split(b []byte) []Line {
	var lines []Line
	for at := 0; at < len(b); {
		l := lineFrom(b, at)
		lines = append(lines, l)
		at = l.Next
	}
	return lines
}

// Texts gives the texts of b's lines, without their ends.
func Texts(b []byte) []string {
	var texts []string
	for at := 0; at < len(b); {
		l := lineFrom(b, at)
		texts = append(texts, string(b[l.At:l.End]))
		at = l.Next
	}
	return texts
}

// Last gives what ends b's first line: "" where nothing ends it, or there is no line.
func Last(b []byte) string {
	l := lineFrom(b, 0)
	return string(b[l.End:l.Next])
}

// Join lays the texts behind one another, each with end behind it.
func Join(l []string, end string) []byte {
	var b []byte
	for _, text := range l {
		b = append(b, text...)
		b = append(b, end...)
	}
	return b
}

// lineFrom finds the line that begins at at, a place in b or its end.
func lineFrom(b []byte, at int) Line {
	end := at
	for end < len(b) && b[end] != '\n' && b[end] != '\r' {
		end++
	}
	return Line{At: at, End: end, Next: end + endLength(b, end)}
}

// endLength tells how many bytes at at end a line: 0 only at b's own end.
func endLength(b []byte, at int) int {
	if at == len(b) {
		return 0
	}
	// The pair is one end: taken as two, it would make an empty line of its own.
	if b[at] == '\r' && at+1 < len(b) && b[at+1] == '\n' {
		return 2
	}
	return 1
}
