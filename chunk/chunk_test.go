package chunk

import (
	"fmt"
	"reflect"
	"strings"
	"testing"

	"selvedge/api"
)

// tell puts defs in words, with every field that is not zero.
func tell(l []api.Def) string {
	var told []string
	for _, d := range l {
		s := fmt.Sprintf("%d:%d [%d,%d) %+q", d.Doc, d.Line, d.From, d.To, d.Key)
		for _, field := range []struct{ name, text string }{{"lang", d.Attr.Lang}, {"name", d.Attr.Name}, {"file", d.Attr.File}, {"style", d.Attr.Style}} {
			if field.text != "" {
				s += fmt.Sprintf(" %s=%+q", field.name, field.text)
			}
		}
		if d.Attr.Append {
			s += " append"
		}
		if d.Attr.NoLine {
			s += " noline"
		}
		for _, text := range d.Lines {
			s += fmt.Sprintf(" %+q", text)
		}
		told = append(told, s)
	}
	return strings.Join(told, "; ")
}

// docs gives documents with the texts, of paths 0, 1 ..
func docs(texts ...string) []api.Source {
	var l []api.Source
	for i, text := range texts {
		l = append(l, api.Source{Path: fmt.Sprint(i), Data: []byte(text)})
	}
	return l
}

// wrong holds Collect against the Fault that it must tell.
func wrong(t *testing.T, name string, l []api.Source, want api.Fault) {
	t.Helper()
	got, f := Collect(l)
	if f != want {
		t.Errorf("P14.1: %s: Collect tells %+v, want %+v", name, f, want)
	}
	if len(got) > 0 {
		t.Errorf("R3: %s: Collect gives %s beside %+v", name, tell(got), f)
	}
}

// right holds Collect against the Defs that it must give.
func right(t *testing.T, name string, l []api.Source, want string) {
	t.Helper()
	got, f := Collect(l)
	if tell(got) != want || f != (api.Fault{}) {
		t.Errorf("P14.1: %s: Collect:\n got %s; %+v\nwant %s", name, tell(got), f, want)
	}
}

func TestWhatIsAPiece(t *testing.T) {
	const one = `0:0 [11,13) "a" name="a" "b"`
	for _, c := range []struct{ name, in, want string }{
		{"nothing", "", ""},
		{"text", "name=a", ""},
		{"a piece", "~~~ name=a\nb\n~~~\n", one},
		{"of the other sign", "``` name=a\nb\n```\n", one},
		{"no end of line behind it", "~~~ name=a\nb\n~~~", one},
		{"without an end", "~~~ name=a\nb\n", ""},
		{"with an end too short", "~~~~ name=a\nb\n~~~", ""},
		{"with an end of the other sign", "~~~ name=a\nb\n```", ""},
		{"an end that is in", "~~~ name=a\nb\n   ~~~", one},
		{"one column in", " ~~~ name=a\nb\n~~~", ""},
		{"three columns in", "   ~~~ name=a\nb\n~~~", ""},
		{"too far in", "    ~~~ name=a\nb", ""},
		{"in a quote", "> ~~~ name=a\n> b\n> ~~~", ""},
		{"in an item", "- ~~~ name=a\n  b\n  ~~~", ""},
		{"behind a quote", "> a\n~~~ name=a\nb\n~~~", `0:1 [15,17) "a" name="a" "b"`},
		{"behind an item", "- a\n~~~ name=a\nb\n~~~", `0:1 [15,17) "a" name="a" "b"`},
		{"within a fence", "~~~~\n~~~ name=a\nb\n~~~\n~~~~", ""},
		{"without a word", "~~~\nb\n~~~", ""},
		{"a language alone", "~~~ go\nb\n~~~", ""},
		{"words that no piece has", "~~~ go x=y z\nb\n~~~", ""},
		{"a word that ends with name=", "~~~ xname=a\nb\n~~~", ""},
		{"name without =", "~~~ name\nb\n~~~", ""},
		{"file and comment without =", "~~~ file comment\nb\n~~~", ""},
		{"a word that begins append", "~~~ go appends append=\nb\n~~~", ""},
		{"a word that begins noline", "~~~ go nolines noline=x\nb\n~~~", ""},
		{"words in capitals", "~~~ Name=a FILE=b Append\nb\n~~~", ""},
		{"another blank parts no words", "~~~ go\u00a0name=a\nb\n~~~", ""},
		{"a fold parts no words", "~~~ go\fname=a\vappend\nb\n~~~", ""},
		{"a quote alone is no word", "~~~ \"name=a\"\nb\n~~~", ""},
	} {
		right(t, c.name, docs(c.in), c.want)
	}
	// What has such a word is a piece, and then its info must be right.
	for _, info := range []string{"name=", "file=", "comment=", "append", "noline", "comment=#", "go append", "append go", "go\tnoline", "x=1 name=", "name=\"", "\" name=", "name=a x", "name=a file=a", "file=a name=b", "name=a name=b", "name=<", "name=a=b", "x=\"a name=b\"", "x=\" noline", "name=a comment=abcde", "name=a append=1", "name=a noline noline", "name=a  file", "name=" + strings.Repeat("a", 61), "name=a\u00a0b", "comment=\u00a7 name=a"} {
		wrong(t, "the info "+info, docs("x\n~~~ "+info+"\n~~~"), api.Fault{Code: api.ErrAttr, Path: "0", Line: 1})
	}
}

func TestWhatADefIs(t *testing.T) {
	for _, c := range []struct {
		name string
		in   []api.Source
		want string
	}{
		{"none", docs("", "a", "~~~\n~~~"), ""},
		{"no line", docs("~~~ name=a\n~~~"), `0:0 [11,11) "a" name="a"`},
		{"an empty line", docs("~~~ name=a\n\n~~~"), `0:0 [11,12) "a" name="a" ""`},
		{"several lines", docs("~~~ name=a\nb\n\n c \n~~~"), `0:0 [11,18) "a" name="a" "b" "" " c "`},
		{"ends of all kinds", docs("~~~ name=a\r\nb\rc\r\nd\n\re\r~~~"), `0:0 [12,22) "a" name="a" "b" "c" "d" "" "e"`},
		{"the end 13 ahead of the end", docs("~~~ name=a\rb\r~~~\r"), `0:0 [11,13) "a" name="a" "b"`},
		{"bytes of no rune and 0 stay", docs("~~~ name=a\n\xff\x00\xe2\n~~~"), `0:0 [11,15) "a" name="a" "\xff\x00\xe2"`},
		{"bytes of no rune ahead of it count one each", docs("\xff\xe2\n~~~ name=a\nb\n~~~"), `0:1 [14,16) "a" name="a" "b"`},
		{"bytes of no rune in its info don't", docs("~~~ name=a\xff\nb\n~~~"), `0:0 [12,14) "a\ufffd" name="a\ufffd" "b"`},
		{"0 in its info", docs("~~~ name=\x00\nb\n~~~"), `0:0 [11,13) "\ufffd" name="\ufffd" "b"`},
		{"tabs and blanks in its lines", docs("~~~ name=a\n\t\n \t b\t\n~~~"), `0:0 [11,19) "a" name="a" "\t" " \t b\t"`},
		{"other fences in it", docs("~~~~ name=a\n~~~ name=b\n~~~\n~~~~"), `0:0 [12,27) "a" name="a" "~~~ name=b" "~~~"`},
		{"signs of others in it", docs("~~~ name=a\n> b\n- c\n~~~"), `0:0 [11,19) "a" name="a" "> b" "- c"`},
		{"all that an info says", docs("~~~ go comment=// noline name=a\nb\n~~~"), `0:0 [32,34) "a" lang="go" name="a" style="//" noline "b"`},
		{"all that an info says of a file", docs("~~~\tc  file=\"a b\"\tcomment=# noline \nb\n~~~"), `0:0 [36,38) "a b" lang="c" file="a b" style="#" noline "b"`},
		{"a file with a :", docs("~~~ file=a:b\nb\n~~~"), `0:0 [13,15) "a:b" file="a:b" "b"`},
		{"several in a document", docs("~~~ name=a\nb\n~~~\n~~~\n~~~\nx\n~~~ file=c\nd\n~~~"), `0:0 [11,13) "a" name="a" "b"; 0:6 [38,40) "c" file="c" "d"`},
		{"in several documents", docs("~~~ name=a\nb\n~~~", "x", "\n~~~ name=c\nd\n~~~"), `0:0 [11,13) "a" name="a" "b"; 2:1 [12,14) "c" name="c" "d"`},
		{"names of one another's beginning", docs("~~~ name=a\n~~~\n~~~ name=ab\n~~~\n~~~ name=A\n~~~"), `0:0 [11,11) "a" name="a"; 0:2 [27,27) "ab" name="ab"; 0:4 [42,42) "A" name="A"`},
	} {
		right(t, c.name, c.in, c.want)
	}
}

func TestAppend(t *testing.T) {
	for _, c := range []struct {
		name string
		in   []api.Source
		want string
	}{
		{"one more", docs("~~~ name=a\nb\n~~~\n~~~ name=a append\nc\n~~~"), `0:0 [11,13) "a" name="a" "b"; 0:3 [35,37) "a" name="a" append "c"`},
		{"two more", docs("~~~ name=a\n~~~\n~~~ name=a append\n~~~\n~~~ append name=a\n~~~"), `0:0 [11,11) "a" name="a"; 0:2 [33,33) "a" name="a" append; 0:4 [55,55) "a" name="a" append`},
		{"in another document", docs("~~~ file=a\nb\n~~~", "~~~ file=a append\nc\n~~~"), `0:0 [11,13) "a" file="a" "b"; 1:0 [18,20) "a" file="a" append "c"`},
		{"of the first one's Style, NoLine, Lang", docs("~~~ go name=a comment=# noline\n~~~\n~~~ append name=a\n~~~"), `0:0 [31,31) "a" lang="go" name="a" style="#" noline; 0:2 [53,53) "a" lang="go" name="a" style="#" append noline`},
		{"these, whatever it says itself", docs("~~~ go name=a comment=#\n~~~\n~~~ c append name=a comment=// noline\n~~~"), `0:0 [24,24) "a" lang="go" name="a" style="#"; 0:2 [66,66) "a" lang="go" name="a" style="#" append`},
		{"none where the first one has none", docs("~~~ name=a\n~~~\n~~~ c append name=a comment=// noline\n~~~"), `0:0 [11,11) "a" name="a"; 0:2 [53,53) "a" name="a" append`},
		{"the first one of its key, not of all", docs("~~~ go name=a\n~~~\n~~~ c name=b noline\n~~~\n~~~ name=b append\n~~~"), `0:0 [14,14) "a" lang="go" name="a"; 0:2 [38,38) "b" lang="c" name="b" noline; 0:4 [60,60) "b" lang="c" name="b" append noline`},
	} {
		right(t, c.name, c.in, c.want)
	}
}

func TestTwice(t *testing.T) {
	const a, fileA = "~~~ name=a\n~~~\n", "~~~ file=a\n~~~\n"
	for _, c := range []struct {
		name string
		in   []api.Source
		want api.Fault
	}{
		{"a name again", docs(a + a), api.Fault{Path: "0", Line: 2, Name: "a"}},
		{"a file again", docs(fileA + fileA), api.Fault{Path: "0", Line: 2, Name: "a"}},
		{"a name again in another document", docs(a, "\n\n"+a), api.Fault{Path: "1", Line: 2, Name: "a"}},
		{"a file where a name is", docs(a + fileA), api.Fault{Path: "0", Line: 2, Name: "a"}},
		{"a name where a file is", docs(fileA + a), api.Fault{Path: "0", Line: 2, Name: "a"}},
		{"append of a file where a name is", docs(a + "~~~ file=a append\n~~~"), api.Fault{Path: "0", Line: 2, Name: "a"}},
		{"append of a name where a file is", docs(fileA + "~~~ name=a append\n~~~"), api.Fault{Path: "0", Line: 2, Name: "a"}},
		{"append of none", docs("~~~ name=a append\n~~~"), api.Fault{Path: "0", Name: "a"}},
		{"append of a file of none", docs("\n~~~ file=\"a b\" append\n~~~"), api.Fault{Path: "0", Line: 1, Name: "a b"}},
		{"append ahead of the first", docs("~~~ name=a append\n~~~\n" + a), api.Fault{Path: "0", Name: "a"}},
		{"append of another", docs(a + "~~~ name=b append\n~~~"), api.Fault{Path: "0", Line: 2, Name: "b"}},
		{"again behind an append", docs(a + "~~~ name=a append\n~~~\n" + a), api.Fault{Path: "0", Line: 4, Name: "a"}},
		{"a file's append behind a name's", docs(a + "~~~ name=a append\n~~~\n~~~ file=a append\n~~~"), api.Fault{Path: "0", Line: 4, Name: "a"}},
	} {
		c.want.Code = api.ErrTwice
		wrong(t, c.name, c.in, c.want)
	}
	right(t, "what is no piece is not there", docs("~~~ name=a\n"), "")
	wrong(t, "what is no piece is not there for an append", docs(" ~~~ name=a\n~~~\n~~~ name=a append\n~~~"), api.Fault{Code: api.ErrTwice, Path: "0", Line: 2, Name: "a"})
}

// pieces gives n pieces, the names of which are from n0 on, two lines each.
func pieces(n0, n int) string {
	var text strings.Builder
	for i := range n {
		fmt.Fprintf(&text, "~~~ name=n%d\n~~~\n", n0+i)
	}
	return text.String()
}

func TestTooMany(t *testing.T) {
	full := strings.Repeat("x", api.MaxBytes)
	paths := make([]string, api.MaxDocs+1)
	right(t, "MaxDocs", docs(paths[1:]...), "")
	wrong(t, "more than MaxDocs", docs(paths...), api.Fault{Code: api.ErrLong})
	wrong(t, "far more", docs(make([]string, 1000)...), api.Fault{Code: api.ErrLong})
	right(t, "MaxBytes", docs(full, full), "")
	wrong(t, "more than MaxBytes", docs(full, full+"x"), api.Fault{Code: api.ErrLong, Path: "1"})
	wrong(t, "far more than MaxBytes", docs("", "", full+full+full), api.Fault{Code: api.ErrLong, Path: "2"})
	wrong(t, "two of more than MaxBytes", docs(full+"x", full+"x"), api.Fault{Code: api.ErrLong, Path: "0"})
	right(t, "a piece up to MaxBytes", docs("~~~ name=a\n"+full[15:]+"\n~~~"), tell([]api.Def{{From: 11, To: api.MaxBytes - 3, Key: "a", Attr: api.Attr{Name: "a"}, Lines: []string{full[15:]}}}))
	most, f := Collect(docs(pieces(0, 150), pieces(150, 50)))
	if len(most) != api.MaxDefs || f != (api.Fault{}) || most[199].Key != "n199" || most[199].Doc != 1 || most[199].Line != 98 {
		t.Errorf("P14.1: MaxDefs: Collect gives %d; %+v", len(most), f)
	}
	wrong(t, "more than MaxDefs", docs(pieces(0, 201)), api.Fault{Code: api.ErrLong, Path: "0", Line: 400})
	wrong(t, "more than MaxDefs in two", docs(pieces(0, 150), "x\n\n"+pieces(150, 60)), api.Fault{Code: api.ErrLong, Path: "1", Line: 102})
	wrong(t, "more than MaxDefs, an append", docs(pieces(0, 200), "~~~ name=n7 append\n~~~"), api.Fault{Code: api.ErrLong, Path: "1"})
	right(t, "MaxDefs of no pieces", docs(strings.Repeat("~~~ go\n~~~\n", 500)), "")
}

// What goes ahead of what, where several things are wrong.
func TestOrderOfRefusals(t *testing.T) {
	long, bad := strings.Repeat("x", api.MaxBytes+1), "~~~ name=\n~~~\n"
	source := func(path, text string) api.Source { return api.Source{Path: path, Data: []byte(text)} }
	var many []api.Source
	for range api.MaxDocs + 1 {
		many = append(many, source("", long))
	}
	wrong(t, "too many ahead of too long", many, api.Fault{Code: api.ErrLong})
	wrong(t, "too long ahead of a path", []api.Source{source(":", bad), source("", long)}, api.Fault{Code: api.ErrLong})
	wrong(t, "too long, with its path as it is", []api.Source{source("<", ""), source("a:\xff", long)}, api.Fault{Code: api.ErrLong, Path: "a:\xff"})
	wrong(t, "a path ahead of an info", []api.Source{source("a", bad), source(":", "")}, api.Fault{Code: api.ErrPath, Path: ":"})
	wrong(t, "a path twice ahead of an info", []api.Source{source("a", bad), source("b", ""), source("a", "")}, api.Fault{Code: api.ErrPath, Path: "a"})
	wrong(t, "the first path", []api.Source{source("a", ""), source("a", ""), source("<", "")}, api.Fault{Code: api.ErrPath, Path: "a"})
	wrong(t, "the first path, too", []api.Source{source("a", ""), source("<", ""), source("a", "")}, api.Fault{Code: api.ErrPath, Path: "<"})
	wrong(t, "one path thrice", []api.Source{source("b", ""), source("a", ""), source("a", ""), source("a", "")}, api.Fault{Code: api.ErrPath, Path: "a"})
	wrong(t, "an empty path", []api.Source{source("", "")}, api.Fault{Code: api.ErrPath})
	wrong(t, "a path of no runes", []api.Source{source("a\xff", "")}, api.Fault{Code: api.ErrPath, Path: "a\xff"})
	right(t, "paths that are alike", []api.Source{source("a", ""), source("A", ""), source("aa", "")}, "")
	wrong(t, "document by document", docs("~~~ name=a\n~~~\n~~~ name=a\n~~~", bad), api.Fault{Code: api.ErrTwice, Path: "0", Line: 2, Name: "a"})
	wrong(t, "fence by fence", docs("~~~ name=a\n~~~\n"+bad+"~~~ name=a\n~~~"), api.Fault{Code: api.ErrAttr, Path: "0", Line: 2})
	wrong(t, "an info ahead of too many", docs(pieces(0, 200)+bad), api.Fault{Code: api.ErrAttr, Path: "0", Line: 400})
	wrong(t, "an info ahead of twice", docs("~~~ name=a\n~~~\n~~~ name=a x\n~~~"), api.Fault{Code: api.ErrAttr, Path: "0", Line: 2})
	wrong(t, "twice ahead of too many", docs(pieces(0, 200)+"~~~ name=n5\n~~~"), api.Fault{Code: api.ErrTwice, Path: "0", Line: 400, Name: "n5"})
	wrong(t, "append of none ahead of too many", docs(pieces(0, 200)+"~~~ name=m append\n~~~"), api.Fault{Code: api.ErrTwice, Path: "0", Line: 400, Name: "m"})
	wrong(t, "too many ahead of what is behind", docs(pieces(0, 201)+bad), api.Fault{Code: api.ErrLong, Path: "0", Line: 400})
}

func TestPath(t *testing.T) {
	for s, want := range map[string]bool{
		"a": true, "a.md": true, "a/b": true, "a b": true, "../a": true, "a\\": false, "": false, ":": false, "a:": false, ":a": false, "a:b": false,
		"<": false, ">": false, "[": false, "]": false, "#": false, "\"": false, "a#b": false, " a": false, "a ": false, "\u3000a": false, "a\u00a0": false, "a\u00a0b": true,
		"a\n": false, "\x00": false, "\x1f": false, "\x7f": true, "\xff": false, "a\xe2": false, "\ufffd": true, "\u00e9": true, "\uff1a": true, ";": true, "=": true,
		strings.Repeat("a", 60): true, strings.Repeat("a", 61): false, strings.Repeat("\u00e9", 30): true, strings.Repeat("\u00e9", 31): false,
		strings.Repeat("a", 59) + ":": false, strings.Repeat(":", 1<<20): false, strings.Repeat("a", 1<<20): false,
	} {
		if got := Path(s); got != want {
			t.Errorf("P14.1: Path(%+q) = %v", s[:min(len(s), 70)], got)
		}
	}
}

func TestKeysFilesOf(t *testing.T) {
	name := func(key string, n int) api.Def { return api.Def{Key: key, Line: n, Attr: api.Attr{Name: key}} }
	file := func(key string, n int) api.Def { return api.Def{Key: key, Line: n, Attr: api.Attr{File: key}} }
	for _, c := range []struct {
		name        string
		in          []api.Def
		keys, files []string
		of          string // the Lines of those of key a
	}{
		{"none", nil, nil, nil, ""},
		{"an empty row", []api.Def{}, nil, nil, ""},
		{"a name", []api.Def{name("a", 1)}, []string{"a"}, nil, "1 "},
		{"a file", []api.Def{file("a", 1)}, []string{"a"}, []string{"a"}, "1 "},
		{"another one", []api.Def{file("b", 1)}, []string{"b"}, []string{"b"}, ""},
		{"as they come first", []api.Def{name("b", 1), file("a", 2), file("c", 3), name("b", 4), file("c", 5), file("a", 6)}, []string{"b", "a", "c"}, []string{"a", "c"}, "2 6 "},
		{"no order but theirs", []api.Def{file("z", 1), file("a", 2), file("m", 3)}, []string{"z", "a", "m"}, []string{"z", "a", "m"}, "2 "},
		{"a name first, then a file", []api.Def{name("a", 1), file("a", 2)}, []string{"a"}, nil, "1 2 "},
		{"a file first, then a name", []api.Def{file("a", 1), name("a", 2)}, []string{"a"}, []string{"a"}, "1 2 "},
		{"neither", []api.Def{{Key: "a", Line: 1}, file("a", 2)}, []string{"a"}, nil, "1 2 "},
		{"both", []api.Def{{Key: "a", Line: 1, Attr: api.Attr{Name: "a", File: "b"}}}, []string{"a"}, []string{"a"}, "1 "},
		{"a key that is not its file", []api.Def{{Key: "a", Line: 1, Attr: api.Attr{File: "b"}}, {Key: "b", Attr: api.Attr{Name: "a"}}}, []string{"a", "b"}, []string{"a"}, "1 "},
		{"an empty key", []api.Def{{Attr: api.Attr{File: "a"}}, name("a", 1), {}}, []string{"", "a"}, []string{""}, "1 "},
		{"keys that are alike", []api.Def{name("A", 1), name("a ", 2), name("a", 3), name("aa", 4)}, []string{"A", "a ", "a", "aa"}, nil, "3 "},
		{"keys of no runes", []api.Def{file("\xff", 1), file("\xfe", 2), file("\ufffd", 3)}, []string{"\xff", "\xfe", "\ufffd"}, []string{"\xff", "\xfe", "\ufffd"}, ""},
	} {
		if got := Keys(c.in); fmt.Sprintf("%q", got) != fmt.Sprintf("%q", c.keys) {
			t.Errorf("P14.1: %s: Keys = %q, want %q", c.name, got, c.keys)
		}
		if got := Files(c.in); fmt.Sprintf("%q", got) != fmt.Sprintf("%q", c.files) {
			t.Errorf("P14.1: %s: Files = %q, want %q", c.name, got, c.files)
		}
		of := ""
		for _, d := range Of(c.in, "a") {
			of += fmt.Sprint(d.Line, " ")
		}
		if of != c.of {
			t.Errorf("P14.1: %s: Of a = %s, want %s", c.name, of, c.of)
		}
	}
	all := api.Def{Doc: -1, Line: 2, From: 3, To: -4, Attr: api.Attr{Lang: "l", Name: "n", File: "f", Style: "s", Append: true, NoLine: true}, Key: "", Lines: []string{"x", "", "\xff"}}
	if got := Of([]api.Def{name("a", 1), all}, ""); !reflect.DeepEqual(got, []api.Def{all}) {
		t.Errorf("P14.1: Of gives %s, want %s", tell(got), tell([]api.Def{all}))
	}
}
