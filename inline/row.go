package inline

import (
	"unicode/utf8"

	"selvedge/api"
)

// row is a row of inlines that grows. The plain text at its end is kept apart until something else comes: so Plains side by side are one, however many they were.
type row struct {
	inlines []api.Inline
	plain   []byte
}

// sayRune puts r behind the row, as plain text.
func (w *row) sayRune(r rune) {
	w.plain = utf8.AppendRune(w.plain, r)
}

// say puts the runes of s behind the row, as plain text.
func (w *row) say(s string) {
	for _, r := range s {
		w.sayRune(r)
	}
}

// put puts x, which is no Plain, behind the row.
func (w *row) put(x api.Inline) {
	w.inlines = append(w.all(), x)
}

// join puts all of v behind the row.
func (w *row) join(v row) {
	for _, x := range v.inlines {
		if x.Kind == api.Plain {
			w.say(x.Text)
		} else {
			w.put(x)
		}
	}
	w.plain = append(w.plain, v.plain...)
}

// all gives the row's inlines.
func (w *row) all() []api.Inline {
	if len(w.plain) > 0 {
		w.inlines = append(w.inlines, api.Inline{Kind: api.Plain, Text: string(w.plain)})
		w.plain = w.plain[:0]
	}
	return w.inlines
}
