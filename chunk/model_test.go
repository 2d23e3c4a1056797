package chunk

import (
	"math/rand"
	"regexp"
	"slices"
	"strings"
	"testing"

	"selvedge/api"
	"selvedge/attr"
	"selvedge/block"
)

var (
	pieceInfo = regexp.MustCompile(`(^|[ \t])((name|file|comment)=|(append|noline)([ \t]|$))`)
	lineForm  = regexp.MustCompile(`(?s)^(.*?)(\r\n|\r|\n|$)`)
	pathForm  = regexp.MustCompile(`^[^:]*$`)
)

// found is a fence that is a piece: what of it is right so far.
type found struct {
	def  api.Def
	path string
	read bool
}

// modelFound gives the pieces of all documents, right or wrong.
func modelFound(l []api.Source) []found {
	var all []found
	for doc, source := range l {
		texts, places := modelLines(string(source.Data))
		for _, p := range block.Fences(source.Data) {
			if !p.Closed || p.Open.Indent != 0 || !pieceInfo.MatchString(p.Open.Info) {
				continue
			}
			a, ok := attr.Read(p.Open.Info)
			key := a.File
			if a.Name != "" {
				key = a.Name
			}
			d := api.Def{Doc: doc, Line: p.Line, Attr: a, Key: key, From: places[p.First], To: places[p.Last], Lines: texts[p.First:p.Last]}
			all = append(all, found{d, source.Path, ok && key != ""})
		}
	}
	return all
}

// modelLines gives the lines of s, and where each begins.
func modelLines(s string) ([]string, []int) {
	var texts []string
	places := []int{}
	at := 0
	for at < len(s) {
		m := lineForm.FindStringSubmatch(s[at:])
		texts, places = append(texts, m[1]), append(places, at)
		at += len(m[0])
	}
	return texts, places
}

// model reads the chapter's clauses on Collect one by one, each over all that there is.
func model(l []api.Source) ([]api.Def, api.Fault) {
	if len(l) > api.MaxDocs {
		return nil, api.Fault{Code: api.ErrLong}
	}
	if i := slices.IndexFunc(l, func(s api.Source) bool { return len(s.Data) > api.MaxBytes }); i >= 0 {
		return nil, api.Fault{Code: api.ErrLong, Path: l[i].Path}
	}
	for i, s := range l {
		if !attr.Name(s.Path) || !pathForm.MatchString(s.Path) || slices.ContainsFunc(l[:i], func(u api.Source) bool { return u.Path == s.Path }) {
			return nil, api.Fault{Code: api.ErrPath, Path: s.Path}
		}
	}
	var defs []api.Def
	for _, f := range modelFound(l) {
		d := f.def
		if !f.read {
			return nil, api.Fault{Code: api.ErrAttr, Path: f.path, Line: d.Line}
		}
		at := slices.IndexFunc(defs, func(o api.Def) bool { return o.Key == d.Key })
		if (at >= 0) != d.Attr.Append || at >= 0 && (defs[at].Attr.File == "") != (d.Attr.File == "") {
			return nil, api.Fault{Code: api.ErrTwice, Path: f.path, Line: d.Line, Name: d.Key}
		}
		if len(defs) == api.MaxDefs {
			return nil, api.Fault{Code: api.ErrLong, Path: f.path, Line: d.Line}
		}
		if d.Attr.Append {
			of := defs[at].Attr
			d.Attr = api.Attr{Lang: of.Lang, Name: d.Attr.Name, File: d.Attr.File, Style: of.Style, Append: true, NoLine: of.NoLine}
		}
		defs = append(defs, d)
	}
	return defs, api.Fault{}
}

// modelKeys gives the keys of l, each once: those of files alone, or all.
func modelKeys(l []api.Def, filesAlone bool) []string {
	var keys []string
	for i, d := range l {
		first := !slices.ContainsFunc(l[:i], func(o api.Def) bool { return o.Key == d.Key })
		if first && (!filesAlone || d.Attr.File != "") {
			keys = append(keys, d.Key)
		}
	}
	return keys
}

// check holds Collect against the model, and what it gives against what Of, Keys and Files say of it.
func check(t *testing.T, l []api.Source) {
	t.Helper()
	got, f := Collect(l)
	want, wantFault := model(l)
	if tell(got) != tell(want) || f != wantFault {
		t.Errorf("P14.1: Collect(%+q):\n got %s; %+v\nwant %s; %+v", l, tell(got), f, tell(want), wantFault)
		return
	}
	for _, d := range got {
		texts, _ := modelLines(string(l[d.Doc].Data[d.From:d.To]))
		if !slices.Equal(texts, d.Lines) || (d.Attr.Name == "") == (d.Attr.File == "") {
			t.Errorf("P14.1: Collect(%+q) gives %s", l, tell([]api.Def{d}))
		}
	}
	checkRow(t, got)
}

// checkRow holds Keys, Files and Of of a row of Defs against the model.
func checkRow(t *testing.T, l []api.Def) {
	t.Helper()
	keys := Keys(l)
	if want := modelKeys(l, false); !slices.Equal(keys, want) {
		t.Errorf("P14.1: Keys(%s) = %q, want %q", tell(l), keys, want)
	}
	if got, want := Files(l), modelKeys(l, true); !slices.Equal(got, want) {
		t.Errorf("P14.1: Files(%s) = %q, want %q", tell(l), got, want)
	}
	all := 0
	for _, key := range append(keys, "no key") {
		of := Of(l, key)
		want := slices.DeleteFunc(slices.Clone(l), func(d api.Def) bool { return d.Key != key })
		if tell(of) != tell(want) {
			t.Errorf("P14.1: Of(%s, %q) = %s", tell(l), key, tell(of))
		}
		all += len(of)
	}
	if all != len(l) {
		t.Errorf("P14.1: the Defs of all keys of %s are %d", tell(l), all)
	}
}

// every hands check each text of up to most of the pieces.
func every(t *testing.T, most int, pieces []string, check func(t *testing.T, s string)) {
	t.Helper()
	for n := range most + 1 {
		all := 1
		for range n {
			all *= len(pieces)
		}
		for number := range all {
			var text strings.Builder
			for range n {
				text.WriteString(pieces[number%len(pieces)])
				number /= len(pieces)
			}
			check(t, text.String())
			if t.Failed() {
				return
			}
		}
	}
}

// random gives a text of up to most of the pieces.
func random(r *rand.Rand, most int, pieces []string) string {
	var text strings.Builder
	for range r.Intn(most + 1) {
		text.WriteString(pieces[r.Intn(len(pieces))])
	}
	return text.String()
}

// The sign 0 parts the text into documents.
func checkDocs(t *testing.T, s string) {
	t.Helper()
	check(t, docs(strings.Split(s, "\x00")...))
}

func TestEveryShortDocument(t *testing.T) {
	checkInfo := func(t *testing.T, s string) { checkDocs(t, "x\n~~~"+s+"\nb\n~~~\n") }
	every(t, 5, []string{" ", "name=", "file=", "append", "a", "\t"}, checkInfo)
	every(t, 5, []string{" ", "comment=#", "name=a", "noline", "append", "\"", "="}, checkInfo)
	every(t, 4, []string{" ", "x", "=", "\"", "\\", "name=a", "noline", "\u00a0", "\f", "\xff"}, checkInfo)
	every(t, 5, []string{"~~~ name=a\n", "~~~ name=a append\n", "~~~\n", " ", "> ", "- ", "\x00"}, checkDocs)
	every(t, 6, []string{"~~~ name=a\r", "\n", "\r", "b", "~~~", "~"}, checkDocs)
	every(t, 5, []string{"~~~ name=a\n~~~\n", "~~~ go name=a noline comment=# append\n~~~\n", "~~~ file=a\n~~~\n", "~~~ c file=a append\nb\n~~~\n", "~~~ name=b comment=//\n~~~\n", "~~~ append\n~~~\n", "\x00"}, checkDocs)
}

func TestRandomDocuments(t *testing.T) {
	r := rand.New(rand.NewSource(14))
	lines := []string{"~~~", "~~~~", "```", " ~~~", "> ", "- ", "  ", " ", "a", "b\xff", "name=a", "file=a", "name=b", "comment=#", " append ", " noline ", " name=", " file=\"c d\" ", "\n", "\r\n", "\r", "\n", "\n", "\x00", "<<a>>", "\t", "x"}
	for range 30000 {
		checkDocs(t, random(r, 40, lines))
	}
	heads := []string{"~~~ name=a", "~~~ go name=b comment=#", "~~~ file=f noline", "~~~ name=c", "~~~ file=\"g h\" comment=//", "```c name=d", " ~~~ name=e", "> ~~~ name=e", "~~~ x"}
	for range 30000 {
		text := ""
		for range r.Intn(12) {
			head := heads[r.Intn(len(heads))]
			if r.Intn(2) == 0 {
				head += " append"
			}
			end := strings.TrimRight(strings.TrimLeft(head, "> ")[:3], " ")
			text += random(r, 3, []string{"x\n", "\n", "\x00"}) + head + []string{"\n", "\r\n", "\r"}[r.Intn(3)] + random(r, 3, []string{"x\n", " y\r", "\n", "\r\n", "\xff\n"}) + end + "\n"
		}
		checkDocs(t, text)
	}
}

// Paths of every kind, and documents up to the limits and past them.
func TestRandomSources(t *testing.T) {
	r := rand.New(rand.NewSource(41))
	long := strings.Repeat("~~~ name=\n~~~\n", api.MaxBytes/14+1)
	for range 5000 {
		var l []api.Source
		for range r.Intn(api.MaxDocs + 3) {
			path := random(r, 3, []string{"a", "b", "c", "d", "e", "a.md"})
			if r.Intn(15) == 0 {
				path += random(r, 2, []string{":", "<", " ", "\xff"})
			}
			text := random(r, 2, []string{"~~~ name=a\n~~~\n", "~~~ name=b\n~~~\n", "x\n", "~~~ name=\n~~~\n"})
			if r.Intn(80) == 0 {
				text = long[:api.MaxBytes+r.Intn(2)]
			}
			if r.Intn(3) > 0 {
				path += string(rune('f' + len(l)))
			}
			l = append(l, api.Source{Path: path, Data: []byte(text)})
		}
		check(t, l)
	}
}

// Around MaxDefs, with what may be wrong there.
func TestRandomNumbersOfDefs(t *testing.T) {
	r := rand.New(rand.NewSource(200))
	for range 300 {
		n := api.MaxDefs - 3 + r.Intn(4)
		s := pieces(0, n)
		for range r.Intn(5) {
			s += []string{"~~~ name=m\n~~~\n", "~~~ name=n3 append\n~~~\n", "~~~ name=n3\n~~~\n", "~~~ append\n~~~\n", "~~~ file=n9 append\n~~~\n", "\x00", "~~~ x\n~~~\n"}[r.Intn(7)]
		}
		checkDocs(t, s)
	}
}

func TestRandomRows(t *testing.T) {
	r := rand.New(rand.NewSource(7))
	for range 30000 {
		var l []api.Def
		for range r.Intn(12) {
			d := api.Def{Doc: r.Intn(3), Line: r.Intn(100), Key: random(r, 2, []string{"a", "b", "\xff"})}
			d.Attr.Name, d.Attr.File = random(r, 1, []string{"a", "b"}), random(r, 1, []string{"a", "b"})
			d.Lines = append(d.Lines, random(r, 2, []string{"x", "\n"}))
			l = append(l, d)
		}
		checkRow(t, l)
	}
}
