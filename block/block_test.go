package block

import (
	"fmt"
	"math/rand"
	"reflect"
	"slices"
	"strings"
	"testing"

	"selvedge/api"
	"selvedge/fence"
)

// tell puts b in words, with every field that is not zero, whether b's kind has it or not.
func tell(b api.Block) string {
	var s strings.Builder
	fmt.Fprint(&s, []string{"doc", "quote", "list", "item", "para", "head", "break", "fence"}[b.Kind], b.Line)
	if b.Level != 0 {
		fmt.Fprint(&s, " level ", b.Level)
	}
	if b.Info != "" {
		fmt.Fprintf(&s, " info %+q", b.Info)
	}
	if b.Text != "" {
		fmt.Fprintf(&s, " %+q", b.Text)
	}
	if len(b.Kids) > 0 {
		s.WriteString("(" + tellAll(b.Kids) + ")")
	}
	return s.String()
}

func tellAll(l []api.Block) string {
	var told []string
	for _, b := range l {
		told = append(told, tell(b))
	}
	return strings.Join(told, ", ")
}

// tried is a document, and what the kids of its Doc must be.
type tried struct{ name, in, want string }

// try holds Parse against each case: promise is what the cases are of.
func try(t *testing.T, promise string, cases []tried) {
	t.Helper()
	for _, c := range cases {
		got := Parse([]byte(c.in))
		if got.Kind != api.Doc || got.Line != 0 || got.Level != 0 || got.Text != "" || got.Info != "" {
			t.Errorf("P7.2: %s: Parse(%q) is no Doc: %s", c.name, c.in, tell(got))
		}
		if told := tellAll(got.Kids); told != c.want {
			t.Errorf("%s: %s: Parse(%q):\n got %s\nwant %s", promise, c.name, c.in, told, c.want)
		}
	}
}

func TestGoingThroughQuotes(t *testing.T) {
	try(t, "P7.1", []tried{
		{"two lines", "> a\n> b", `quote0(para0 "a\nb")`},
		{"without the blank", ">a\n>b", `quote0(para0 "a\nb")`},
		{"three columns in", "> a\n   > b", `quote0(para0 "a\nb")`},
		{"four columns in is text", "> a\n    > b", `quote0(para0 "a\n> b")`},
		{"one column alone is taken", "> ~~~\n>  a\n>   b", `quote0(fence0 " a\n  b\n")`},
		{"a tab is taken in part", "> ~~~\n>\ta", `quote0(fence0 "   a\n")`},
		{"a quote in a quote", "> > a\n> > b", `quote0(quote0(para0 "a\nb"))`},
		{"no blanks between", ">> a\n>>b", `quote0(quote0(para0 "a\nb"))`},
		{"the inner one is not taken", "> > a\n> # b", `quote0(quote0(para0 "a"), head1 level 1 "b")`},
		{"an empty line is none of it", "> a\n\n> b", `quote0(para0 "a"), quote2(para2 "b")`},
		{"a sign alone is", "> a\n>\n> b", `quote0(para0 "a", para2 "b")`},
		{"a quote in an item", "- > a\n  > b", `list0(item0(quote0(para0 "a\nb")))`},
		{"an item in a quote", "> - a\n>   b\n> - c", `quote0(list0(item0(para0 "a\nb"), item2(para2 "c")))`},
		{"an empty line in an item in a quote", "> - a\n>\n>   b", `quote0(list0(item0(para0 "a", para2 "b")))`},
		{"an empty line in a quote in an item", "- > a\n\n  > b", `list0(item0(quote0(para0 "a"), quote2(para2 "b")))`},
	})
}

func TestGoingThroughItems(t *testing.T) {
	try(t, "P7.1", []tried{
		{"as far in as the content", "- # a\n  # b", `list0(item0(head0 level 1 "a", head1 level 1 "b"))`},
		{"further in", "- # a\n   # b", `list0(item0(head0 level 1 "a", head1 level 1 "b"))`},
		{"not so far in", "- # a\n # b", `list0(item0(head0 level 1 "a")), head1 level 1 "b"`},
		{"not in at all", "- # a\n# b", `list0(item0(head0 level 1 "a")), head1 level 1 "b"`},
		{"content five columns in", "-    # a\n     # b\n    # c", `list0(item0(head0 level 1 "a", head1 level 1 "b")), para2 "# c"`},
		{"content too far off", "-     # a\n  # b", `list0(item0(para0 "# a", head1 level 1 "b"))`},
		{"the sign's own columns count", "  - # a\n    # b\n   # c", `list0(item0(head0 level 1 "a", head1 level 1 "b")), head2 level 1 "c"`},
		{"a sign alone", "-\n  # a\n # b", `list0(item0(head1 level 1 "a")), head2 level 1 "b"`},
		{"a tab behind the sign", "-\t# a\n     # b\n    # c", `list0(item0(head0 level 1 "a", head1 level 1 "b")), para2 "# c"`},
		{"a tab is far enough in", "- # a\n\t# b", `list0(item0(head0 level 1 "a", head1 level 1 "b"))`},
		{"a tab is taken in part", "- ~~~\n\ta", `list0(item0(fence0 "  a\n"))`},
		{"a tab is not far enough in", "-    # a\n\t# b", `list0(item0(head0 level 1 "a")), para1 "# b"`},
		{"empty lines", "- a\n\n\n \n\t\n  b", `list0(item0(para0 "a", para5 "b"))`},
		{"an empty line behind a sign alone", "-\n\n  a", `list0(item0(para2 "a"))`},
		{"an empty line is left whole", "- ~~~\n\n \n  \n     \n\t\n  a", `list0(item0(fence0 "\n \n  \n     \n\t\na\n"))`},
		{"other blanks are no empty line", "- a\n\n\u00a0\n", `list0(item0(para0 "a")), para2 "\u00a0"`},
		{"an item in an item", "- - a\n    b\n  - c\n- d", `list0(item0(list0(item0(para0 "a\nb"), item2(para2 "c"))), item3(para3 "d"))`},
		{"the inner one is not taken", "- - # a\n  # b", `list0(item0(list0(item0(head0 level 1 "a")), head1 level 1 "b"))`},
		{"columns are counted from what is left", "> -\t# a\n>      # b\n>     # c", `quote0(list0(item0(head0 level 1 "a", head1 level 1 "b")), para2 "# c")`},
	})
}

func TestFencesTakeTheirLines(t *testing.T) {
	try(t, "P7.1 (a)", []tried{
		{"to the end of all", "~~~\na\nb", `fence0 "a\nb\n"`},
		{"to its end", "~~~\na\n~~~\nb", `fence0 "a\n", para3 "b"`},
		{"no line", "~~~\n~~~", `fence0`},
		{"nothing behind it", "~~~", `fence0`},
		{"an info", "``` go name=a \nb\n```", `fence0 info "go name=a" "b\n"`},
		{"empty lines are its own", "~~~\n\n a\n\t\n~~~", `fence0 "\n a\n\t\n"`},
		{"signs of others are its own", "~~~\n> a\n- b\n# c\n---\n```\n~~~", `fence0 "> a\n- b\n# c\n---\n` + "```" + `\n"`},
		{"fewer signs", "~~~~\n~~~\n~~~~", `fence0 "~~~\n"`},
		{"more signs", "~~~\na\n~~~~~", `fence0 "a\n"`},
		{"the other sign", "```\n~~~\n```", `fence0 "~~~\n"`},
		{"an info at the end", "~~~\n~~~ a\n~~~ \t", `fence0 "~~~ a\n"`},
		{"an end that is in", "~~~\na\n   ~~~\nb", `fence0 "a\n", para3 "b"`},
		{"an end too far in", "~~~\na\n    ~~~\nb", `fence0 "a\n    ~~~\nb\n"`},
		{"its own Indent is taken", "  ~~~\n   a\n  b\n c\nd\n\te\n  ~~~", `fence0 " a\nb\nc\nd\n  e\n"`},
		{"of an empty line too", "   ~~~\n     \n \n\n\t\n", `fence0 "  \n\n\n \n"`},
		{"blanks behind stay", "~~~\na \t \n", `fence0 "a \t \n"`},
		{"in an item", "- ~~~\n  a\n   b\n  ~~~\n  c", `list0(item0(fence0 "a\n b\n", para4 "c"))`},
		{"in an item, with an Indent", "-\n   ~~~\n   a\n    b\n  c", `list0(item0(fence1 "a\n b\nc\n"))`},
		{"in a quote", "> ~~~\n>  a\n> ~~~\n> b", `quote0(fence0 " a\n", para3 "b")`},
		{"an end that its item doesn't take", "- ~~~\n  a\n~~~\nb", `list0(item0(fence0 "a\n")), fence2 "b\n"`},
		{"an end that its quote doesn't take", "> ~~~\n> a\n~~~\nb", `quote0(fence0 "a\n"), fence2 "b\n"`},
		{"text that its quote doesn't take", "> ~~~\n> a\nb", `quote0(fence0 "a\n"), para2 "b"`},
		{"text that its item doesn't take", "- ~~~\n  a\n b", `list0(item0(fence0 "a\n")), para2 "b"`},
		{"an empty line that its quote doesn't take", "> ~~~\n> a\n\n> b", `quote0(fence0 "a\n"), quote3(para3 "b")`},
		{"a new item", "- ~~~\n  a\n- b", `list0(item0(fence0 "a\n"), item2(para2 "b"))`},
		{"one behind another", "~~~\n~~~\n~~~\n~~~\n~~~", `fence0, fence2, fence4`},
	})
}

func TestContainersBegin(t *testing.T) {
	try(t, "P7.1 (b)", []tried{
		{"a quote", "> a", `quote0(para0 "a")`},
		{"a quote of nothing", ">", `quote0`},
		{"a quote of blanks", ">  \t", `quote0`},
		{"an item", "- a", `list0(item0(para0 "a"))`},
		{"an item of nothing", "-", `list0(item0)`},
		{"an item of blanks", "* \t ", `list0(item0)`},
		{"several on a line", "> - > + a", `quote0(list0(item0(quote0(list0(item0(para0 "a"))))))`},
		{"several items on a line", "- * + a", `list0(item0(list0(item0(list0(item0(para0 "a"))))))`},
		{"items of one sign on a line", "- - a", `list0(item0(list0(item0(para0 "a"))))`},
		{"three signs are a break, not items", "- - -", `break0`},
		{"a break in an item", "- * * *", `list0(item0(break0))`},
		{"four columns in", "    > a\n    - b", `para0 "> a\n- b"`},
		{"they close a Para that all took", "a\n> b\n", `para0 "a", quote1(para1 "b")`},
		{"an item of nothing closes it", "a\n-\nb", `para0 "a", list1(item1), para2 "b"`},
		{"a quote of nothing closes it", "a\n>\nb", `para0 "a", quote1, para2 "b"`},
		{"in a container that took the line", "> a\n> - b", `quote0(para0 "a", list1(item1(para1 "b")))`},
		{"those that didn't take it are closed", "> a\n- b", `quote0(para0 "a"), list1(item1(para1 "b"))`},
		{"with all that is open in them", "> - > a\n> > b", `quote0(list0(item0(quote0(para0 "a"))), quote1(para1 "b"))`},
		{"a quote that was closed is a new one", "> a\n- b\n> c", `quote0(para0 "a"), list1(item1(para1 "b")), quote2(para2 "c")`},
		{"text behind a new one joins no Para", "> a\n>> b\n> c", `quote0(para0 "a", quote1(para1 "b\nc"))`},
		{"an item of nothing and text not so far in", "-\na", `list0(item0), para1 "a"`},
		{"a leaf in a new one", "> a\n- # b", `quote0(para0 "a"), list1(item1(head1 level 1 "b"))`},
	})
}

func TestItemsOfOneList(t *testing.T) {
	try(t, "P7.1 (b)", []tried{
		{"one sign", "- a\n- b\n- c", `list0(item0(para0 "a"), item1(para1 "b"), item2(para2 "c"))`},
		{"empty lines between", "- a\n\n\n \n- b", `list0(item0(para0 "a"), item4(para4 "b"))`},
		{"items of nothing", "*\n*\n*", `list0(item0, item1, item2)`},
		{"one further in than the other", "- a\n - b\n- c", `list0(item0(para0 "a"), item1(para1 "b"), item2(para2 "c"))`},
		{"further in than the content", "- a\n  - b", `list0(item0(para0 "a", list1(item1(para1 "b"))))`},
		{"other signs", "- a\n* b\n+ c", `list0(item0(para0 "a")), list1(item1(para1 "b")), list2(item2(para2 "c"))`},
		{"the sign of the last but one", "- a\n* b\n- c\n- d", `list0(item0(para0 "a")), list1(item1(para1 "b")), list2(item2(para2 "c"), item3(para3 "d"))`},
		{"a Para between", "- a\n\nb\n- c", `list0(item0(para0 "a")), para2 "b", list3(item3(para3 "c"))`},
		{"a Heading between", "- a\n# b\n- c", `list0(item0(para0 "a")), head1 level 1 "b", list2(item2(para2 "c"))`},
		{"a Break between", "- a\n***\n- c", `list0(item0(para0 "a")), break1, list2(item2(para2 "c"))`},
		{"a Fence between", "- a\n~~~\n~~~\n- c", `list0(item0(para0 "a")), fence1, list3(item3(para3 "c"))`},
		{"a Quote between", "- a\n>\n- c", `list0(item0(para0 "a")), quote1, list2(item2(para2 "c"))`},
		{"text that goes on is not between", "- a\nb\n- c", `list0(item0(para0 "a\nb"), item2(para2 "c"))`},
		{"a leaf within is not between", "- a\n  ***\n- c", `list0(item0(para0 "a", break1), item2(para2 "c"))`},
		{"a list within is not between", "- a\n  * b\n- c", `list0(item0(para0 "a", list1(item1(para1 "b"))), item2(para2 "c"))`},
		{"the same sign within is another place", "- - a\n- b", `list0(item0(list0(item0(para0 "a"))), item1(para1 "b"))`},
		{"each item within has a place of its own", "- - a\n- - b", `list0(item0(list0(item0(para0 "a"))), item1(list1(item1(para1 "b"))))`},
		{"lists within go on", "- * a\n\n  * b\n- c", `list0(item0(list0(item0(para0 "a"), item2(para2 "b"))), item3(para3 "c"))`},
		{"in a quote", "> - a\n> - b\n> * c", `quote0(list0(item0(para0 "a"), item1(para1 "b")), list2(item2(para2 "c")))`},
		{"in another quote", "> - a\n\n> - b", `quote0(list0(item0(para0 "a"))), quote2(list2(item2(para2 "b")))`},
		{"in the quote and behind it", "> - a\n- b", `quote0(list0(item0(para0 "a"))), list1(item1(para1 "b"))`},
		{"ahead of the quote and in it", "- a\n> - b", `list0(item0(para0 "a")), quote1(list1(item1(para1 "b")))`},
	})
}

func TestEmptyLines(t *testing.T) {
	try(t, "P7.1 (c)", []tried{
		{"none but these", "\n \n\t\n \t \n", ``},
		{"ahead of all", "\n\na", `para2 "a"`},
		{"behind all", "a\n\n\n", `para0 "a"`},
		{"they close a Para", "a\n\nb", `para0 "a", para2 "b"`},
		{"blanks and tabs", "a\n \t\nb", `para0 "a", para2 "b"`},
		{"other blanks are none", "a\n\u00a0\n\v\nb", `para0 "a\n\u00a0\n\v\nb"`},
		{"a Para in a quote that all took", "> a\n> \n> b", `quote0(para0 "a", para2 "b")`},
		{"a Para in an item", "- a\n\n  b\n\nc", `list0(item0(para0 "a", para2 "b")), para4 "c"`},
		{"they close quotes, not the items around", "- > a\n\n  b", `list0(item0(quote0(para0 "a"), para2 "b"))`},
		{"a Para of a quote in an item is closed", "- > a\n\nb", `list0(item0(quote0(para0 "a"))), para2 "b"`},
		{"an inner quote is closed, the outer one goes on", "> > a\n>\n> b", `quote0(quote0(para0 "a"), para2 "b")`},
		{"a Fence in a quote is closed", "> ~~~\n\n> a", `quote0(fence0), quote2(para2 "a")`},
		{"a Fence in an inner quote is closed", "> > ~~~\n>\n> a", `quote0(quote0(fence0), para2 "a")`},
		{"a Fence in a quote in an item is closed", "- > ~~~\n  > a\n\n  b", `list0(item0(quote0(fence0 "a\n"), para3 "b"))`},
	})
}

func TestLeaves(t *testing.T) {
	try(t, "P7.1 (c)", []tried{
		{"headings", "# a\n###### b ##\n#", `head0 level 1 "a", head1 level 6 "b", head2 level 1`},
		{"no heading", "#a\n####### b\n    # c", `para0 "#a\n####### b\n# c"`},
		{"breaks", "---\n* * *\n__ _\n", `break0, break1, break2`},
		{"no break", "--\n    ***", `para0 "--\n***"`},
		{"no fence", "~~\n``` `\n    ~~~", "para0 \"~~\\n``` `\\n~~~\""},
		{"a heading closes a Para", "a\n## b\nc", `para0 "a", head1 level 2 "b", para2 "c"`},
		{"a break closes a Para", "a\n---\nb", `para0 "a", break1, para2 "b"`},
		{"a fence closes a Para", "a\n~~~\nb\n~~~\nc", `para0 "a", fence1 "b\n", para4 "c"`},
		{"a heading in a container that took it", "> a\n> # b\n> c", `quote0(para0 "a", head1 level 1 "b", para2 "c")`},
		{"a break in one", "- a\n  ---\n  b", `list0(item0(para0 "a", break1, para2 "b"))`},
		{"a fence in one", "- a\n  ~~~\n  b", `list0(item0(para0 "a", fence1 "b\n"))`},
		{"a heading closes what didn't take it", "> - a\n# b\nc", `quote0(list0(item0(para0 "a"))), head1 level 1 "b", para2 "c"`},
		{"a break closes what didn't take it", "> - a\n***\nc", `quote0(list0(item0(para0 "a"))), break1, para2 "c"`},
		{"a fence closes what didn't take it", "> - a\n~~~\nc", `quote0(list0(item0(para0 "a"))), fence1 "c\n"`},
		{"and leaves what took it", "> - a\n> # b\n> c", `quote0(list0(item0(para0 "a")), head1 level 1 "b", para2 "c")`},
		{"text behind a heading is no part of it", "> # a\nb", `quote0(head0 level 1 "a"), para1 "b"`},
		{"text behind a break is no part of it", "- ***\nb", `list0(item0(break0)), para1 "b"`},
		{"no signs under a Para make it more", "a\n===\n", `para0 "a\n==="`},
	})
}

func TestText(t *testing.T) {
	try(t, "P7.1 (c)", []tried{
		{"one line", "a", `para0 "a"`},
		{"several", "a\nb\nc\n", `para0 "a\nb\nc"`},
		{"without blanks and tabs around", " \ta \t\n\t b\t \n      c  ", `para0 "a\nb\nc"`},
		{"with those within", "a \t b\nc  d", `para0 "a \t b\nc  d"`},
		{"far in, and first", "\t\t a\nb", `para0 "a\nb"`},
		{"other blanks stay", "\u00a0a\u3000\n\vb\f", `para0 "\u00a0a\u3000\n\vb\f"`},
		{"it goes on outside its quote", "> a\nb\nc", `quote0(para0 "a\nb\nc")`},
		{"it goes on outside its item", "- a\nb\n c", `list0(item0(para0 "a\nb\nc"))`},
		{"it goes on outside all", "> - > a\nb", `quote0(list0(item0(quote0(para0 "a\nb"))))`},
		{"it goes on outside some", "> - > a\n> b", `quote0(list0(item0(quote0(para0 "a\nb"))))`},
		{"what it goes on outside of stays open", "> a\nb\n> c", `quote0(para0 "a\nb\nc")`},
		{"all of it stays open", "> - a\nb\n>   c\n>\n>   d", `quote0(list0(item0(para0 "a\nb\nc", para4 "d")))`},
		{"an item too", "- a\nb\n\n  c", `list0(item0(para0 "a\nb", para3 "c"))`},
		{"far in, outside its quote", "> a\n      > b", `quote0(para0 "a\n> b")`},
		{"no Para is open", "> a\n>\nb", `quote0(para0 "a"), para2 "b"`},
		{"none in the innermost", "> a\n> -\n> b", `quote0(para0 "a", list1(item1), para2 "b")`},
		{"a Para begins in what took it", "> > # a\n> b", `quote0(quote0(head0 level 1 "a"), para1 "b")`},
		{"a Para begins outside all", "- > # a\nb", `list0(item0(quote0(head0 level 1 "a"))), para1 "b"`},
		{"a Para of an item that was closed", "- a\n- \nb", `list0(item0(para0 "a"), item1), para2 "b"`},
	})
}

func TestMaxNest(t *testing.T) {
	for _, c := range []struct {
		name, sign string
		signs      int
		left       string
	}{
		{"one fewer", ">", api.MaxNest - 1, "a"},
		{"as many", ">", api.MaxNest, "a"},
		{"one more", ">", api.MaxNest + 1, "> a"},
		{"many more", "> ", 2 * api.MaxNest, strings.Repeat("> ", api.MaxNest) + "a"},
		{"as many items", "+ ", api.MaxNest, "a"},
		{"more items", "+ ", api.MaxNest + 2, "+ + a"},
	} {
		text := strings.TrimSuffix(strings.Repeat(c.sign, c.signs), " ") + " a"
		b, nested := Parse([]byte(text)), 0
		for len(b.Kids) == 1 {
			b = b.Kids[0]
			if b.Kind == api.Quote || b.Kind == api.Item {
				nested++
			}
		}
		if nested != min(c.signs, api.MaxNest) || tell(b) != fmt.Sprintf("para0 %q", c.left) {
			t.Errorf("P7.1 (b): %s: %d nested, in them %s, want %q", c.name, nested, tell(b), c.left)
		}
	}
}

// inQuotes gives want, the kids of n Quotes that begin on the first line.
func inQuotes(n int, want string) string {
	return strings.Repeat("quote0(", n) + want + strings.Repeat(")", n)
}

func TestMaxNestHoldsOfWhatTookTheLine(t *testing.T) {
	most := strings.Repeat(">", api.MaxNest)
	less := most[1:]
	try(t, "P7.1 (b)", []tried{
		{"the last one begins again", most + " a\n" + less + " - b", inQuotes(api.MaxNest-1, `quote0(para0 "a"), list1(item1(para1 "b"))`)},
		{"all take it: text", most + " a\n" + most + " - b", inQuotes(api.MaxNest, `para0 "a\n- b"`)},
		{"all take it: a leaf", most + " a\n" + most + " # b", inQuotes(api.MaxNest, `para0 "a", head1 level 1 "b"`)},
		{"none takes it: others begin", most + " a\n- - b", inQuotes(api.MaxNest, `para0 "a"`) + `, list1(item1(list1(item1(para1 "b"))))`},
		{"one begins on a line of its own", less + "\n" + less + "> > a", inQuotes(api.MaxNest-1, `quote1(para1 "> a")`)},
	})
}

func TestParse(t *testing.T) {
	try(t, "P7.2", []tried{
		{"nothing", "", ``},
		{"example 1", "> a\nb", `quote0(para0 "a\nb")`},
		{"example 2", "- a\n\n- b", `list0(item0(para0 "a"), item2(para2 "b"))`},
		{"where each begins", "\n> a\n>\n> b\n\n-\n\n  c\n- ~~~\n", `quote1(para1 "a", para3 "b"), list5(item5(para7 "c"), item8(fence8))`},
		{"a List begins where its first Item does", "a\n\n- > b\n- c", `para0 "a", list2(item2(quote2(para2 "b")), item3(para3 "c"))`},
		{"bytes 13 and 10 end a line", "> a\r\n> b\r\n\r\n# c\r\n", `quote0(para0 "a\nb"), head3 level 1 "c"`},
		{"byte 13 ends a line", "- a\r  b\r\r- c", `list0(item0(para0 "a\nb"), item3(para3 "c"))`},
		{"other ends of lines in a Fence", "~~~ x\r\na\r\rb\n~~~\r", `fence0 info "x" "a\n\nb\n"`},
		{"bytes of no rune", "\xff\n\xc3", `para0 "\ufffd\n\ufffd"`},
		{"byte 0", "a\x00b\n# \x00\n~~~ \x00\n\x00", `para0 "a\ufffdb", head1 level 1 "\ufffd", fence2 info "\ufffd" "\ufffd\n"`},
		{"a rune parted by an end of a line", "\xc3\n\xa9", `para0 "\ufffd\n\ufffd"`},
		{"runes", "> \u00e9\U0001f600\n~~~ \u00e9", `quote0(para0 "\u00e9\U0001f600"), fence1 info "\u00e9"`},
	})
	want := api.Block{Kids: []api.Block{
		{Kind: api.Heading, Level: 2, Text: "a"},
		{Kind: api.Para, Text: "b\nc", Line: 1},
		{Kind: api.Fence, Text: "d\n", Info: "go x", Line: 3},
		{Kind: api.List, Line: 6, Kids: []api.Block{{Kind: api.Item, Line: 6, Kids: []api.Block{{Kind: api.Break, Line: 6}}}}},
		{Kind: api.Quote, Line: 7},
	}}
	if got := Parse([]byte("## a\nb\nc\n~~~ go x\nd\n~~~\n- ***\n>")); !reflect.DeepEqual(got, want) {
		t.Errorf("P7.2: Parse = %+v, want %+v", got, want)
	}
}

func TestParseNothing(t *testing.T) {
	for _, b := range [][]byte{nil, {}, []byte("abc")[:0]} {
		if got := Parse(b); !reflect.DeepEqual(got, api.Block{Kind: api.Doc}) {
			t.Errorf("P7.2: Parse of nothing = %+v", got)
		}
		if got := Fences(b); len(got) != 0 {
			t.Errorf("P7.3: Fences of nothing = %+v", got)
		}
	}
}

func TestMaxBytes(t *testing.T) {
	for _, c := range []struct {
		name   string
		ahead  int // bytes of the heading's line that is first
		behind string
		want   string
		fences int
	}{
		{"all is read", api.MaxBytes - 1, "b", `para1 "b"`, 0},
		{"one byte more", api.MaxBytes - 1, "bc", `para1 "b"`, 0},
		{"one line more", api.MaxBytes - 2, "b\n# c", `para1 "b"`, 0},
		{"a heading is cut", api.MaxBytes - 2, "# b", `head1 level 1`, 0},
		{"a rune is cut", api.MaxBytes - 1, "\u00e9", `para1 "\ufffd"`, 0},
		{"a fence is read", api.MaxBytes - 9, "~~~\nb\n~~~", `fence1 "b\n"`, 1},
		{"its end is cut", api.MaxBytes - 8, "~~~\nb\n~~~", `fence1 "b\n~~\n"`, 1},
		{"its info is cut", api.MaxBytes - 4, "~~~bc", `fence1 info "b"`, 1},
		{"its signs are cut", api.MaxBytes - 2, "~~~", `para1 "~~"`, 0},
		{"bytes 13 and 10 are parted", api.MaxBytes - 4, "~~~\r\n~~~", `fence1`, 1},
		{"all is behind", api.MaxBytes, "# b\n~~~\n", ``, 0},
		{"all is further behind", 3 * api.MaxBytes, "# b\n~~~\n", ``, 0},
	} {
		in := []byte("# " + strings.Repeat("a", c.ahead-3) + "\n" + c.behind)
		kids := Parse(in).Kids
		if want := strings.Repeat("a", min(c.ahead-3, api.MaxBytes-2)); kids[0].Text != want {
			t.Errorf("P7.2: %s: of the heading %d bytes are read, want %d", c.name, len(kids[0].Text), len(want))
		}
		if got := tellAll(kids[1:]); got != c.want {
			t.Errorf("P7.2: %s: %s, want %s", c.name, got, c.want)
		}
		if got := Fences(in); len(got) != c.fences {
			t.Errorf("P7.3: %s: Fences = %+v, want %d", c.name, got, c.fences)
		}
	}
}

func TestFences(t *testing.T) {
	open := func(c byte, n, in int, info string) fence.Open {
		return fence.Open{Char: c, Count: n, Indent: in, Info: info}
	}
	for _, c := range []struct {
		name, in string
		want     []Place
	}{
		{"none", "a\n\n# b\n> c\n- d\n---", nil},
		{"no end, no lines", "~~~", []Place{{0, open('~', 3, 0, ""), 1, 1, false}}},
		{"no end, no lines, an end of a line", "~~~\n", []Place{{0, open('~', 3, 0, ""), 1, 1, false}}},
		{"no end", "~~~\na\n\n", []Place{{0, open('~', 3, 0, ""), 1, 3, false}}},
		{"an end", "~~~\na\n\n~~~", []Place{{0, open('~', 3, 0, ""), 1, 3, true}}},
		{"an end, no lines", "```\n```\n", []Place{{0, open('`', 3, 0, ""), 1, 1, true}}},
		{"an end, and more", "~~~\na\n~~~\n\nb", []Place{{0, open('~', 3, 0, ""), 1, 2, true}}},
		{"what it says", "a\n  ```` go  name=b \nc\n````", []Place{{1, open('`', 4, 2, "go  name=b"), 2, 3, true}}},
		{"no end of that many", "~~~~~ x\n~~~~\n```````", []Place{{0, open('~', 5, 0, "x"), 1, 3, false}}},
		{"several", "~~~ a\n~~~\n``` b\nx\n```\ny\n\n~~~ c\nz", []Place{
			{0, open('~', 3, 0, "a"), 1, 1, true}, {2, open('`', 3, 0, "b"), 3, 4, true}, {7, open('~', 3, 0, "c"), 8, 9, false}}},
		{"others in it", "~~~ a\n> ```\n- ```\n```\n~~~", []Place{{0, open('~', 3, 0, "a"), 1, 4, true}}},
		{"in a quote", "> ~~~\n> a\n> ~~~", nil},
		{"in an item", "- ~~~\n  a\n  ~~~\n", nil},
		{"in an item, further down", "- a\n\n  ~~~\n  b\n  ~~~\n", nil},
		{"in a quote in an item", "- > ~~~\n  > a", nil},
		{"in a quote that is closed by an end", "> ~~~\n~~~\na\n~~~", []Place{{1, open('~', 3, 0, ""), 2, 3, true}}},
		{"in an item that is closed by an end", "- ~~~\n ~~~ x\na", []Place{{1, open('~', 3, 1, "x"), 2, 3, false}}},
		{"behind a Para that goes on", "> a\nb\n~~~\n~~~", []Place{{2, open('~', 3, 0, ""), 3, 3, true}}},
		{"ends of lines", "~~~ a\r\nb\r\r\n~~~\rc", []Place{{0, open('~', 3, 0, "a"), 1, 3, true}}},
		{"bytes of no rune", "~~~ \xff\x00\n\xfe", []Place{{0, open('~', 3, 0, "\ufffd\ufffd"), 1, 2, false}}},
		{"too far in", "    ~~~\n~~\n", nil},
	} {
		if got := Fences([]byte(c.in)); !slices.Equal(got, c.want) {
			t.Errorf("P7.3: %s: Fences(%q) = %+v, want %+v", c.name, c.in, got, c.want)
		}
	}
}

func TestMaxFences(t *testing.T) {
	in := []byte(strings.Repeat("~~~\n", api.MaxBytes/4))
	got := Fences(in)
	if len(got) != api.MaxBytes/8 {
		t.Fatalf("P7.3: %d Fences, want %d", len(got), api.MaxBytes/8)
	}
	for i, p := range got {
		if want := (Place{2 * i, fence.Open{Char: '~', Count: 3}, 2*i + 1, 2*i + 1, true}); p != want {
			t.Fatalf("P7.3: Fence %d is %+v, want %+v", i, p, want)
		}
	}
}

// Documents that give as much work as may be: they must only end, soon, and be whole.
func TestGreatDocuments(t *testing.T) {
	deep := strings.Repeat("* + ", api.MaxNest/2)
	for _, c := range []struct{ ahead, line string }{
		{"", "\n"}, {"", "a\n"}, {"", ">"}, {"", "- "}, {"", "+ "}, {"", "\t"}, {"", ">\n"}, {"", "-\n"}, {"", "~"}, {"", "#"},
		{"~~~\n", "\n"}, {"   ~~~\n", "\t\n"}, {deep + "\n", "\n"}, {deep + "~~~\n", "\n"}, {deep + "a\n", "a\n"}, {deep, "a"}, {deep, " "},
	} {
		in := []byte(c.ahead + strings.Repeat(c.line, api.MaxBytes))[:api.MaxBytes]
		checkTree(t, c.ahead+c.line+"..", Parse(in))
		Fences(in)
	}
	if got := Parse([]byte(strings.Repeat("a\n", api.MaxBytes/2))); got.Kids[0].Text != strings.Repeat("a\n", api.MaxBytes/2-1)+"a" {
		t.Error("P7.1: a great Para is not whole")
	}
	if got := Parse([]byte(strings.Repeat("-\n", api.MaxBytes/2))); len(got.Kids[0].Kids) != api.MaxBytes/2 {
		t.Error("P7.1: a great List is not whole")
	}
}

// checkTree holds a tree against what holds of every one.
func checkTree(t *testing.T, name string, b api.Block) {
	t.Helper()
	line := 0
	var walk func(b api.Block, in, nested int)
	walk = func(b api.Block, in, nested int) {
		leaf := b.Kind >= api.Para
		switch {
		case b.Line < line:
			t.Errorf("P7.2: %s: %s begins ahead of what is ahead of it", name, tell(b))
		case (b.Kind == api.Item) != (in == api.List):
			t.Errorf("P7.2: %s: %s in kind %d", name, tell(b), in)
		case b.Kind == api.List && (len(b.Kids) == 0 || b.Line != b.Kids[0].Line):
			t.Errorf("P7.2: %s: %s: a List begins with its first Item", name, tell(b))
		case leaf && len(b.Kids) > 0, !leaf && b.Text != "", b.Kind != api.Fence && b.Info != "", (b.Kind == api.Heading) != (b.Level != 0):
			t.Errorf("P7.2, R3: %s: %s: fields of another kind", name, tell(b))
		case b.Kind == api.Para && b.Text == "":
			t.Errorf("P7.1: %s: a Para without text", name)
		}
		line = max(line, b.Line)
		if b.Kind == api.Quote || b.Kind == api.Item {
			nested++
		}
		if nested > api.MaxNest {
			t.Fatalf("P7.1: %s: more than MaxNest containers", name)
		}
		for _, k := range b.Kids {
			walk(k, b.Kind, nested)
		}
	}
	walk(b, -1, 0)
}

func TestAnyBytes(t *testing.T) {
	const signs = "\n\n\r \t>-*+#~~~`_ab\x00\xff"
	r := rand.New(rand.NewSource(7))
	for range 20000 {
		in := make([]byte, r.Intn(60))
		for i := range in {
			if in[i] = byte(r.Intn(256)); r.Intn(4) > 0 {
				in[i] = signs[r.Intn(len(signs))]
			}
		}
		full := append(slices.Clone(in), "\n# behind"...)
		b, f := Parse(full[:len(in)]), Fences(full[:len(in)])
		checkTree(t, fmt.Sprintf("%q", in), b)
		if string(full) != string(in)+"\n# behind" {
			t.Fatalf("R2: Parse or Fences of %q changed it, or its room", in)
		}
		if !reflect.DeepEqual(b, Parse(in)) || !reflect.DeepEqual(f, Fences(in)) {
			t.Fatalf("R4, R5: Parse or Fences of %q is not the same with room behind", in)
		}
		if want := model(string(in)); tell(b) != tell(want.tree()) || !slices.Equal(f, want.places()) {
			t.Fatalf("P7.1: Parse(%q):\n got %s, %v\nwant %s, %v", in, tell(b), f, tell(want.tree()), want.places())
		}
	}
}

func TestAnswersShareNoMemory(t *testing.T) {
	in := []byte("> a\n> - b\n> - c\n>\n> d\n\n- e\n\n  ~~~ x\n  f\n* g\n  > h\n# i\n~~~ y\nj\n~~~\n")
	want, fences := tell(Parse(in)), fmt.Sprint(Fences(in))
	b, f := Parse(in), Fences(in)
	for i := range in {
		in[i] = '?'
	}
	if tell(b) != want || fmt.Sprint(f) != fences {
		t.Fatal("R2: an answer shares memory with what was handed in")
	}
	// Each list, lengthened within its room, leaves every other one as it is.
	var lengthen func(b api.Block)
	lengthen = func(b api.Block) {
		room := b.Kids[len(b.Kids):cap(b.Kids)]
		for i := range room {
			room[i] = api.Block{Kind: api.Break, Line: -1}
		}
		for _, k := range b.Kids {
			lengthen(k)
		}
	}
	lengthen(b)
	if tell(b) != want {
		t.Error("R2: two lists of one answer share memory")
	}
}
