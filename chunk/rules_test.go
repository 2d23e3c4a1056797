package chunk

import (
	"fmt"
	"reflect"
	"slices"
	"strings"
	"testing"
	"unsafe"

	"selvedge/api"
	"selvedge/attr"
	"selvedge/runes"
)

// Each rune in a path, in a key, and between the words of an info.
func TestEveryRune(t *testing.T) {
	for r := range rune(0x3100) {
		s := "a" + string(r) + "b"
		if got := Path(s); got != (attr.Name(s) && r != ':') {
			t.Errorf("P14.1: Path(%q) = %v", s, got)
		}
		if r == '\n' || r == '\r' {
			continue
		}
		// The rune ahead of a word: only a blank and a tab part it from what is ahead, and then the info is right.
		got, f := Collect(docs("~~~ go" + string(r) + "name=a\n~~~"))
		if parted := r == ' ' || r == '\t'; (len(got) == 1) != parted || f != (api.Fault{}) {
			t.Errorf("P14.1: Collect of an info with %q ahead of name= gives %s; %+v", r, tell(got), f)
		}
		// Behind append: so it is the word, or it is another one.
		_, f = Collect(docs("~~~ go append" + string(r) + "\n~~~"))
		if parted := r == ' ' || r == '\t'; (f.Code == api.ErrAttr) != parted || !parted && f != (api.Fault{}) {
			t.Errorf("P14.1: Collect of an info with %q behind append tells %+v", r, f)
		}
		key := runes.Text([]byte(s))
		got, f = Collect(docs("~~~ name=\"" + s + "\"\n~~~"))
		if attr.Name(key) {
			if f != (api.Fault{}) || len(got) != 1 || got[0].Key != key || got[0].Attr.Name != key {
				t.Errorf("P14.1: Collect of the name %q gives %s; %+v", s, tell(got), f)
			}
		} else if f != (api.Fault{Code: api.ErrAttr, Path: "0"}) {
			t.Errorf("P14.1: Collect of the name %q gives %s; %+v", s, tell(got), f)
		}
	}
}

// What is beyond the words is beyond the bytes, too: only the lines of a document are as bytes.
func TestEveryByteInALine(t *testing.T) {
	for n := range 256 {
		s := string([]byte{'a', byte(n), 'b'})
		want := []string{s}
		if n == '\n' || n == '\r' {
			want = []string{"a", "b"}
		}
		got, _ := Collect(docs("~~~ name=a\n" + s + "\n~~~"))
		if len(got) != 1 || !slices.Equal(got[0].Lines, want) || got[0].From != 11 || got[0].To != 15 {
			t.Errorf("P14.1: Collect of the line %q gives %s", s, tell(got))
		}
	}
}

// Rows and texts for which looking through all at each place would not end soon.
func TestLongRows(t *testing.T) {
	const n = 1 << 19
	l := make([]api.Def, n)
	for i := range l {
		key := fmt.Sprint(i / 2)
		l[i] = api.Def{Key: key, Line: i}
		if i%4 < 2 {
			l[i].Attr.File = key
		}
	}
	if got := Keys(l); len(got) != n/2 || got[n/2-1] != fmt.Sprint(n/2-1) {
		t.Errorf("P14.1: Keys of many Defs are %d", len(got))
	}
	if got := Files(l); len(got) != n/4 || got[1] != "2" {
		t.Errorf("P14.1: Files of many Defs are %d", len(got))
	}
	if got := Of(l, "7"); len(got) != 2 || got[1].Line != 15 {
		t.Errorf("P14.1: Of many Defs are %s", tell(got))
	}
	if got := Of(make([]api.Def, n), ""); len(got) != n {
		t.Errorf("P14.1: Of many Defs of the empty key are %d", len(got))
	}
	if got, f := Collect(make([]api.Source, 1<<22)); len(got) > 0 || f != (api.Fault{Code: api.ErrLong}) {
		t.Errorf("P14.1: Collect of many documents tells %+v", f)
	}
	for _, piece := range []string{"~~~ name=a\n", "~~~ name=a\n~~~\n", "~~~ x\n~~~\n", "> ", "- ", " ", "\t", "\n", "\r", "~", "~~~ go", " append", "name=", "\"", "\xff", "\x00"} {
		in := strings.Repeat(piece, api.MaxBytes/len(piece))
		check(t, docs(in, in, "~~~ "+in[:1<<15]+"\n~~~"))
	}
}

// memory gives a text that lies in bytes that can be overwritten.
func memory(s string) (string, []byte) {
	b := []byte(s)
	return unsafe.String(unsafe.SliceData(b), len(b)), b
}

func TestNothingIsKept(t *testing.T) {
	text := "~~~ go name=a comment=#\nb\n~~~\n~~~ file=c\n~~~\n~~~ name=a append\nd\n~~~\n"
	path, pathBytes := memory("path")
	data := append([]byte(text), "behind"...)
	sources := []api.Source{{Path: path, Data: data[:len(text)]}, {Path: "behind", Data: []byte("~~~ name=\n~~~")}}
	defs, f := Collect(sources[:1])
	if string(data) != text+"behind" || path != "path" || sources[1].Path != "behind" || string(sources[1].Data) != "~~~ name=\n~~~" {
		t.Error("R2: Collect changes what is handed in")
	}
	was := tell(defs)
	clear(data)
	if got := tell(defs); got != was || len(defs) != 3 || f != (api.Fault{}) {
		t.Errorf("R2: Collect keeps what is handed in: %s, then %s", was, got)
	}
	// Each refusal that tells a path or a name.
	for _, in := range []string{"~~~ name=\n~~~", "~~~ name=a append\n~~~", pieces(0, 201), strings.Repeat("a", api.MaxBytes+1)} {
		data := []byte(in)
		_, f := Collect([]api.Source{{Path: path, Data: data}})
		told := fmt.Sprintf("%+v", f)
		clear(data)
		clear(pathBytes)
		if got := fmt.Sprintf("%+v", f); got != told || f.Path != "path" {
			t.Errorf("R2: a Fault keeps what is handed in: %s, then %s", told, got)
		}
		copy(pathBytes, "path")
	}
	bad, badBytes := memory("a:b")
	_, f = Collect([]api.Source{{Path: bad}})
	clear(badBytes)
	if f.Path != "a:b" {
		t.Errorf("R2: a Fault of a path keeps it: %q", f.Path)
	}
}

func TestNothingIsShared(t *testing.T) {
	defs, _ := Collect(docs("~~~ name=a\nb\nc\n~~~\n~~~ name=a append\nd\n~~~\n~~~ name=e\n\nf\n~~~"))
	was := tell(defs[1:])
	spoil(defs[:1])
	if got := tell(defs[1:]); got != was {
		t.Errorf("R2: two Lines of Collect share memory: %s, then %s", was, got)
	}
	word, bytes := memory("word")
	def := api.Def{Key: word, Attr: api.Attr{Lang: word, Name: word, File: word, Style: word}, Lines: []string{word, "b", "behind"}[:2]}
	l := []api.Def{def, def, {Key: "word", Line: 5}}[:2]
	of, keys, files := Of(l, "word"), Keys(l), Files(l)
	one := tell([]api.Def{def})
	was = one + "; " + one
	if tell(of) != was || tell(l) != was || l[:3][2].Line != 5 || def.Lines[:3][2] != "behind" {
		t.Errorf("R2, R5: Of reads or writes spare room: %s", tell(of))
	}
	clear(bytes)
	if got := tell(of); got != was || !slices.Equal(keys, []string{"word"}) || !slices.Equal(files, []string{"word"}) {
		t.Errorf("R2: Of, Keys, Files keep what is handed in: %s, %q, %q", got, keys, files)
	}
	copy(bytes, "word")
	spoil(of[:1])
	if tell(l) != was || tell(of[1:]) != one || def.Lines[:3][2] != "behind" {
		t.Errorf("R2: what Of gives shares memory with what it was given: %s", tell(l))
	}
	spoilTexts(keys)
	spoilTexts(files)
	if tell(l) != was {
		t.Errorf("R2: what Keys and Files give shares memory with what they were given: %s", tell(l))
	}
}

// spoil overwrites what the Lines of l have, and their spare room.
func spoil(l []api.Def) {
	for _, d := range l {
		spoilTexts(d.Lines)
	}
}

func spoilTexts(l []string) {
	l = l[:cap(l)]
	for i := range l {
		l[i] = "spoilt"
	}
}

func TestNilAndEmpty(t *testing.T) {
	for _, l := range [][]api.Source{nil, {}, {{Path: "a"}}, {{Path: "a", Data: []byte{}}}} {
		if got, f := Collect(l); len(got) != 0 || f != (api.Fault{}) {
			t.Errorf("R4: Collect(%+v) gives %s; %+v", l, tell(got), f)
		}
	}
	for _, l := range [][]api.Def{nil, {}} {
		if len(Of(l, "")) != 0 || len(Keys(l)) != 0 || len(Files(l)) != 0 {
			t.Errorf("R4: Of, Keys or Files of nothing is something")
		}
	}
	lines := []api.Def{{Lines: nil}, {Lines: []string{}}}
	if got := Of(lines, ""); len(got) != 2 || len(got[0].Lines) != 0 || len(got[1].Lines) != 0 {
		t.Errorf("R4: Of Defs without Lines gives %s", tell(got))
	}
	// The same twice: nothing is kept from call to call.
	in := docs("~~~ name=a\n~~~", "~~~ file=b comment=#\nc\n~~~")
	one, f := Collect(in)
	two, g := Collect(in)
	if !reflect.DeepEqual(one, two) || f != g || len(one) != 2 {
		t.Errorf("R4: Collect gives %s, and then %s", tell(one), tell(two))
	}
}
