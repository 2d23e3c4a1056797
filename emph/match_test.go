package emph

import (
	"math"
	"math/rand"
	"slices"
	"strings"
	"testing"
)

// list reads runs from words: signs of one kind, and behind them o if it Opens, c if it Closes.
func list(words string) []Run {
	var l []Run
	for _, word := range strings.Fields(words) {
		char := word[0]
		signs := strings.Count(word, string(char))
		l = append(l, run(char, signs, word[signs:]))
	}
	return l
}

func TestMatch(t *testing.T) {
	for _, c := range []struct {
		name, in string
		want     []Pair
	}{
		{"nothing", "", nil},
		{"* and *", "*o *c", []Pair{{0, 1, 1}}},
		{"_ and _", "_o _c", []Pair{{0, 1, 1}}},
		{"** and **", "**o **c", []Pair{{0, 1, 2}}},
		{"*** and ***: two, then one", "***o ***c", []Pair{{0, 1, 2}, {0, 1, 1}}},
		{"four: two, and two", "****o ****c", []Pair{{0, 1, 2}, {0, 1, 2}}},
		{"five", "*****o *****c", []Pair{{0, 1, 2}, {0, 1, 2}, {0, 1, 1}}},
		{"one of two", "**o *c", []Pair{{0, 1, 1}}},
		{"one for two", "*o **c", []Pair{{0, 1, 1}}},
		{"two of three", "***o **c", []Pair{{0, 1, 2}}},
		{"two for three", "**o ***c", []Pair{{0, 1, 2}}},
		{"one of three", "***o *c", []Pair{{0, 1, 1}}},
		{"one alone", "*o", nil},
		{"one that closes alone", "*c", nil},
		{"one that does both pairs not with itself", "**oc", nil},
		{"two that open", "*o *o", nil},
		{"two that close", "*c *c", nil},
		{"closing ahead of opening", "*c *o", nil},
		{"neither", "* * *", nil},
		{"one that doesn't open", "* *c", nil},
		{"one that doesn't close", "*o *", nil},
		{"another sign", "*o _c", nil},
		{"another sign, the other way round", "_o *c", nil},
		{"any sign", "xo xc", []Pair{{0, 1, 1}}},
		{"any sign, and another", "xo yc", nil},

		{"one behind another", "*o *c *o *c", []Pair{{0, 1, 1}, {2, 3, 1}}},
		{"one within another", "*o *o *c *c", []Pair{{1, 2, 1}, {0, 3, 1}}},
		{"** around *", "**o *o *c **c", []Pair{{1, 2, 1}, {0, 3, 2}}},
		{"* around **", "*o **o **c *c", []Pair{{1, 2, 2}, {0, 3, 1}}},
		{"_ within *", "*o _o _c *c", []Pair{{1, 2, 1}, {0, 3, 1}}},
		{"_ across *", "*o _o *c _c", []Pair{{0, 2, 1}}},
		{"* across _", "_o *o _c *c", []Pair{{0, 2, 1}}},
		{"the nearest one", "*o *o *c", []Pair{{1, 2, 1}}},
		{"the nearest one, over another sign", "*o _o _o *c", []Pair{{0, 3, 1}}},
		{"two close, the first does", "*o *c *c", []Pair{{0, 1, 1}}},
		{"one for two that open", "*o *o **c", []Pair{{1, 2, 1}, {0, 2, 1}}},
		{"two close what one opens", "**o *c *c", []Pair{{0, 1, 1}, {0, 2, 1}}},
		{"three close what one opens", "****o *c ***c", []Pair{{0, 1, 1}, {0, 2, 2}, {0, 2, 1}}},
		{"what is left of one opens further", "***o *c **c", []Pair{{0, 1, 1}, {0, 2, 2}}},
		{"what is left is one", "***o **c **c", []Pair{{0, 1, 2}, {0, 2, 1}}},
		{"what is left takes the next one ahead", "**o *o ***c", []Pair{{1, 2, 1}, {0, 2, 2}}},
		{"what was closed doesn't open", "*o *c *c *c", []Pair{{0, 1, 1}}},
		{"those between are out, though more close", "*o **o *c _c **c", []Pair{{1, 2, 1}, {1, 4, 1}, {0, 4, 1}}},
		{"those between of another sign are out", "**o _o *c _c *c", []Pair{{0, 2, 1}, {0, 4, 1}}},
		{"those between, that closed, are out", "*o _o _oc *c _c", []Pair{{1, 2, 1}, {0, 3, 1}}},
		{"those ahead are not out", "_o *o *c _c", []Pair{{1, 2, 1}, {0, 3, 1}}},
		{"a whole sentence", "**o *o _o _c *c _o **c _c", []Pair{{2, 3, 1}, {1, 4, 1}, {0, 6, 2}}},

		{"what closes and has signs left opens", "*oc *c", []Pair{{0, 1, 1}}},
		{"what closed one and has signs left opens", "*o ****oc *c", []Pair{{0, 1, 1}, {1, 2, 1}}},
		{"what closed one and has two left opens", "*o ***oc **c", []Pair{{0, 1, 1}, {1, 2, 2}}},
		{"what closed with all it has doesn't open", "*o *oc *c", []Pair{{0, 1, 1}}},
		{"what closed nothing opens", "_o *oc *c _c", []Pair{{1, 2, 1}, {0, 3, 1}}},

		{"1 and 2, one does both: the closing one", "*o **oc", nil},
		{"1 and 2, one does both: the opening one", "*oc **c", nil},
		{"1 and 2, both do both", "*oc **oc", nil},
		{"1 and 2, neither does both", "*o **c", []Pair{{0, 1, 1}}},
		{"2 and 1, the closing one does both", "**o *oc", nil},
		{"2 and 4", "**oc ****c", nil},
		{"1 and 5", "*o *****oc", nil},
		{"1 and 1, both do both", "*oc *oc", []Pair{{0, 1, 1}}},
		{"2 and 2, both do both", "**oc **oc", []Pair{{0, 1, 2}}},
		{"1 and 3, both do both", "*oc ***oc", []Pair{{0, 1, 1}}},
		{"3 and 3, both do both", "***oc ***oc", []Pair{{0, 1, 2}, {0, 1, 1}}},
		{"3 and 6", "***oc ******oc", []Pair{{0, 1, 2}, {0, 1, 1}}},
		{"6 and 3", "******o ***oc", []Pair{{0, 1, 2}, {0, 1, 1}}},
		{"over one with which it doesn't go", "**o *o **oc", []Pair{{0, 2, 2}}},
		{"over two with which it doesn't go", "**o *o *oc **oc *c", []Pair{{1, 2, 1}, {0, 3, 2}}},
		{"what it went over is out", "**o *o **oc *c", []Pair{{0, 2, 2}}},
		{"what one doesn't go with another one may close", "*o **oc *c", []Pair{{0, 2, 1}}},
		{"of two that it doesn't go with both are left", "*o *o **oc", nil},
		{"the same Count again, once it does both", "*o **oc **c", []Pair{{1, 2, 2}}},
		{"the same Count, that does not both", "*o _o **oc _c **c", []Pair{{1, 3, 1}, {0, 4, 1}}},
		{"of the first Counts, not of what is left: 3 - 1 and 1", "***o *c *oc", []Pair{{0, 1, 1}, {0, 2, 1}}},
		{"of the first Counts: 4 - 2 and 2", "****o **c **oc", []Pair{{0, 1, 2}}},
		{"of the first Counts: 5 - 1 and 2", "*****o *c **oc", []Pair{{0, 1, 1}, {0, 2, 2}}},
		{"of the first Counts: closing 3, 2 left, and 1", "*o *o ***oc", []Pair{{1, 2, 1}, {0, 2, 1}}},
		{"of the first Counts: 6 of which 1 is left, and 3", "******o *****c ***oc", []Pair{{0, 1, 2}, {0, 1, 2}, {0, 1, 1}, {0, 2, 1}}},
	} {
		if got := Match(list(c.in)); !slices.Equal(got, c.want) {
			t.Errorf("P10.2: %s: Match(%s) = %v, want %v", c.name, c.in, got, c.want)
		}
	}
}

// Counts of any size: they are held between 0 and 100, and so are the first ones.
func TestMatchCounts(t *testing.T) {
	for _, c := range []struct {
		name        string
		open, close Run
		twos, ones  int
	}{
		{"0 opens", run('*', 0, "o"), run('*', 1, "c"), 0, 0},
		{"0 closes", run('*', 1, "o"), run('*', 0, "c"), 0, 0},
		{"both 0", run('*', 0, "o"), run('*', 0, "c"), 0, 0},
		{"below 0", run('*', -1, "o"), run('*', 1, "c"), 0, 0},
		{"below 0 closes", run('*', 5, "o"), run('*', -2, "c"), 0, 0},
		{"both below 0", run('*', -3, "oc"), run('*', -3, "oc"), 0, 0},
		{"the least", run('*', math.MinInt, "o"), run('*', math.MaxInt, "c"), 0, 0},
		{"the least closes", run('*', math.MaxInt, "o"), run('*', math.MinInt, "c"), 0, 0},
		{"99", run('*', 99, "o"), run('*', 99, "c"), 49, 1},
		{"100", run('*', 100, "o"), run('*', 100, "c"), 50, 0},
		{"101", run('*', 101, "o"), run('*', 101, "c"), 50, 0},
		{"101 and 99", run('*', 101, "o"), run('*', 99, "c"), 49, 1},
		{"102 and 3, neither does both", run('*', 102, "o"), run('*', 3, "c"), 1, 1},
		{"the greatest", run('*', math.MaxInt, "o"), run('*', math.MaxInt, "c"), 50, 0},
		{"2^32 + 1", run('*', 1<<32+1, "o"), run('*', 1<<32+1, "c"), 50, 0},
		{"100 and 2: 102", run('*', 100, "oc"), run('*', 2, "c"), 0, 0},
		{"101 as 100, and 2: 102", run('*', 101, "oc"), run('*', 2, "c"), 0, 0},
		{"101 as 100, and 1: 101", run('*', 101, "oc"), run('*', 1, "c"), 0, 1},
		{"2, and 101 as 100", run('*', 2, "oc"), run('*', 101, "c"), 0, 0},
		{"102 as 100, and 3: no multiples of 3 both", run('*', 102, "oc"), run('*', 3, "c"), 1, 1},
		{"102 as 100, and 102 as 100", run('*', 102, "oc"), run('*', 102, "oc"), 50, 0},
		{"102 as 100, and 2: 102", run('*', 102, "oc"), run('*', 2, "oc"), 0, 0},
	} {
		want := slices.Concat(slices.Repeat([]Pair{{0, 1, 2}}, c.twos), slices.Repeat([]Pair{{0, 1, 1}}, c.ones))
		if got := Match([]Run{c.open, c.close}); !slices.Equal(got, want) {
			t.Errorf("P10.2: %s: Match = %v, want %v", c.name, got, want)
		}
	}
}

// Signs are any byte: none is taken for another one.
func TestMatchEveryChar(t *testing.T) {
	for open := range 256 {
		for closing := range 256 {
			// The last one is just like the one that found nothing, but for the sign.
			l := []Run{run(byte(open), 2, "o"), run(byte(closing), 2, "c"), run(byte(open), 2, "c")}
			want := []Pair{{0, 2, 2}}
			if open == closing {
				want = []Pair{{0, 1, 2}}
			}
			if got := Match(l); !slices.Equal(got, want) {
				t.Fatalf("P10.2: Match(%v) = %v, want %v", l, got, want)
			}
		}
	}
}

// byWords gives the pairs of l, read clause by clause, with no more kept than the signs left.
func byWords(l []Run) []Pair {
	first := make([]int, len(l))
	for i := range l {
		first[i] = min(max(l[i].Count, 0), 100)
	}
	left := slices.Clone(first)
	var pairs []Pair
	for i := range l {
		for l[i].Closes && left[i] > 0 {
			open := i - 1
			for open >= 0 && !goes(l, first, left, open, i) {
				open--
			}
			if open < 0 {
				break
			}
			size := 1
			if left[open] > 1 && left[i] > 1 {
				size = 2
			}
			left[open] -= size
			left[i] -= size
			clear(left[open+1 : i])
			pairs = append(pairs, Pair{open, i, size})
		}
	}
	return pairs
}

// goes tells whether the run at open may make a pair with the one at closing.
func goes(l []Run, first, left []int, open, closing int) bool {
	a, b := l[open], l[closing]
	if !a.Opens || a.Char != b.Char || left[open] == 0 {
		return false
	}
	multiples := first[open]%3 == 0 && first[closing]%3 == 0
	both := a.Opens && a.Closes || b.Opens && b.Closes
	return multiples || !(both && (first[open]+first[closing])%3 == 0)
}

// crossing gives two of pairs that cross: false of none.
func crossing(pairs []Pair) (a, b Pair, found bool) {
	for _, a := range pairs {
		for _, b := range pairs {
			if a.Open < b.Open && b.Open < a.Close && a.Close < b.Close {
				return a, b, true
			}
		}
	}
	return Pair{}, Pair{}, false
}

// checkMatch holds Match(l) against its words.
func checkMatch(t *testing.T, l []Run) {
	t.Helper()
	got := Match(l)
	if want := byWords(l); !slices.Equal(got, want) {
		t.Fatalf("P10.2: Match(%v) = %v, want %v", l, got, want)
	}
	if a, b, found := crossing(got); found {
		t.Fatalf("P10.3: Match(%v): %v and %v cross", l, a, b)
	}
}

// every hands do each list of n of the runs in from.
func every(from []Run, n int, do func(l []Run)) {
	all := 1
	for range n {
		all *= len(from)
	}
	l := make([]Run, n)
	for number := range all {
		for i := range l {
			l[i] = from[number%len(from)]
			number /= len(from)
		}
		do(l)
	}
}

// runsOf gives a Run of each sign and Count, that opens, closes, does both and neither.
func runsOf(chars string, counts ...int) []Run {
	var l []Run
	for _, char := range []byte(chars) {
		for _, count := range counts {
			for _, how := range []string{"", "o", "c", "oc"} {
				l = append(l, run(char, count, how))
			}
		}
	}
	return l
}

func TestMatchEveryShortList(t *testing.T) {
	for n := range 4 {
		every(runsOf("*_", 0, 1, 2, 3, 4, 5), n, func(l []Run) { checkMatch(t, l) })
	}
	every(runsOf("*", 1, 2, 3, 4), 4, func(l []Run) { checkMatch(t, l) })
	every(runsOf("*_", 1, 2), 4, func(l []Run) { checkMatch(t, l) })
	every(list("*o *c _o _c **o **c **oc"), 6, func(l []Run) { checkMatch(t, l) })
}

func TestMatchRandomLists(t *testing.T) {
	r := rand.New(rand.NewSource(10))
	hows := []string{"o", "c", "oc", "oc", ""}
	for range 30000 {
		chars := "*_x"[:1+r.Intn(3)]
		top := 1 + r.Intn(8)
		l := make([]Run, r.Intn(25))
		for i := range l {
			l[i] = run(chars[r.Intn(len(chars))], r.Intn(top+1), hows[r.Intn(len(hows))])
		}
		checkMatch(t, l)
	}
	for range 300 {
		l := make([]Run, r.Intn(300))
		for i := range l {
			l[i] = run("**_"[r.Intn(3)], r.Intn(210)-5, hows[r.Intn(len(hows))])
		}
		checkMatch(t, l)
	}
}

// Lists for which looking back to the beginning each time, or to the other end of a pair, would not end soon.
func TestMatchLongLists(t *testing.T) {
	const n = 1 << 19
	for _, c := range []struct {
		name  string
		list  []Run
		pairs int
	}{
		{"nothing closes", slices.Repeat(list("*o"), n), 0},
		{"nothing opens", slices.Repeat(list("*c"), n), 0},
		{"what closes is of another sign", append(slices.Repeat(list("*o"), n), slices.Repeat(list("_c"), n)...), 0},
		{"what closes is of another sign, each time", slices.Repeat(list("*o _c"), n), 0},
		{"each one within the next one", append(slices.Repeat(list("*o"), n), slices.Repeat(list("*c"), n)...), n},
		{"each one within the next one, over what it leaves", append(slices.Repeat(list("*o _o"), n), slices.Repeat(list("*c"), n)...), n},
		{"one behind another", slices.Repeat(list("*o **oc **c"), n), n},
		{"over all that does not go with it", append(slices.Repeat(list("*o"), n), slices.Repeat(list("**oc **oc"), n/2)...), n / 2},
		{"all do both", slices.Repeat(list("*oc"), n), n / 2},
		{"all do both, of three Counts", slices.Repeat(list("*oc **oc ****oc"), n), 2*n - 1},
		{"all have a hundred", slices.Repeat([]Run{run('*', 100, "o"), run('*', 100, "c")}, n/64), n / 64 * 50},
		{"one has a hundred", append([]Run{run('*', 100, "o")}, slices.Repeat(list("*o _o *c *c"), n)...), n + 100},
	} {
		got := Match(c.list)
		if len(got) != c.pairs {
			t.Errorf("P10.2: %s: %d pairs, want %d", c.name, len(got), c.pairs)
		}
	}
	var all []Run
	for char := range 256 {
		all = append(all, run(byte(char), 1, "o"))
	}
	if got := Match(slices.Repeat(all, 1<<10)); len(got) != 0 {
		t.Errorf("P10.2: all signs: %d pairs", len(got))
	}
}

func TestMatchKeepsNothing(t *testing.T) {
	whole := list("***o **o *c _o ***c *c *o *c")
	whole[3].Count, whole[4].Count = -1, 1000
	was := slices.Clone(whole)
	got := Match(whole[:6])
	if !slices.Equal(whole, was) {
		t.Errorf("R2: the runs are now %v", whole)
	}
	want := byWords(was[:6])
	if !slices.Equal(got, want) {
		t.Errorf("R5: Match = %v, want %v: spare room is read", got, want)
	}
	clear(whole)
	if again := Match(was[:6]); !slices.Equal(got, want) || !slices.Equal(again, want) || &got[0] == &again[0] {
		t.Errorf("R2: Match = %v, then %v, want %v", got, again, want)
	}
	for _, l := range [][]Run{nil, {}, was[:0]} {
		if got := Match(l); len(got) != 0 {
			t.Errorf("P10.2, R4: Match of nothing = %v", got)
		}
	}
}
