package inline

import (
	"selvedge/code"
	"selvedge/esc"
	"selvedge/link"
)

// brackets tells of the [ of a text what link.Close tells of them. It keeps what it came by: to ask for each of many that stand in one another, or aren't closed, would cost the text's length each time.
type brackets struct {
	text string
	ends map[int]int // by the place of a [: where the ] is that closes it, or the text's end
}

// end tells where the ] is that closes the [ at at.
func (b *brackets) end(at int) (int, bool) {
	if _, known := b.ends[at]; !known {
		b.seek(at)
	}
	if end := b.ends[at]; end < len(b.text) {
		return end, true
	}
	return 0, false
}

// seek goes from the [ at at to the ] that closes it, and keeps where those on its way are closed.
func (b *brackets) seek(at int) {
	var open []int // each in the one ahead of it
	for at < len(b.text) {
		r, next, own := esc.Next(b.text, at)
		end, known := b.ends[at]
		switch {
		case own:
		case known:
			// If it isn't closed, neither is what it stands in.
			next = end + 1
		case r == '[':
			open = append(open, at)
		case r == ']':
			last := len(open) - 1
			b.ends[open[last]] = at
			open = open[:last]
			if last == 0 {
				return
			}
		case r == '`' || r == '<':
			next = b.behind(at)
		}
		at = next
	}
	for _, at := range open {
		b.ends[at] = len(b.text)
	}
}

// behind gives where the code or the Auto ends that begins at at: if none does, where the run of ` or the < there ends.
func (b *brackets) behind(at int) int {
	if _, end, ok := code.Span(b.text, at); ok {
		return end
	}
	if _, end, ok := link.Auto(b.text, at); ok {
		return end
	}
	return at + max(code.Run(b.text, at, '`'), 1)
}
