package inline

import (
	"selvedge/api"
	"selvedge/emph"
)

// rows stand behind one another in a text, or within one another: the last one is what grows.
type rows []row

// last gives the last row.
func (l rows) last() *row {
	return &l[len(l)-1]
}

// shut puts the last row into the one that it stands in, as kind.
func (l rows) shut(kind int) rows {
	kids := l.last().all()
	l = l[:len(l)-1]
	l.last().put(api.Inline{Kind: kind, Kids: kids})
	return l
}

// fold makes one row of flat, between each two of which one of runs stands, by the pairs that these make.
func fold(flat rows, runs []emph.Run) []api.Inline {
	// Most texts have no runs, and what emph.Match costs at least is much for one of a few words.
	if len(runs) == 0 {
		return flat[0].all()
	}
	pairs := emph.Match(runs)
	opens, left := shares(runs, pairs)
	nested := rows{flat[0]}
	for i, run := range runs {
		// The signs nearest to what is between are taken: those that close are the first of their run, those that open the last.
		for len(pairs) > 0 && pairs[0].Close == i {
			nested = nested.shut(stress(pairs[0].Size))
			pairs = pairs[1:]
		}
		for range left[i] {
			nested.last().sayRune(rune(run.Char))
		}
		nested = append(nested, make(rows, opens[i])...)
		nested.last().join(flat[i+1])
	}
	return nested.last().all()
}

// shares tells of each of runs how many of pairs it opens, and how many signs they leave of it.
func shares(runs []emph.Run, pairs []emph.Pair) (opens, left []int) {
	opens, left = make([]int, len(runs)), make([]int, len(runs))
	for i, run := range runs {
		left[i] = run.Count
	}
	for _, pair := range pairs {
		opens[pair.Open]++
		left[pair.Open] -= pair.Size
		left[pair.Close] -= pair.Size
	}
	return opens, left
}

// stress gives the kind of inline that a pair of size makes.
func stress(size int) int {
	if size == 2 {
		return api.Strong
	}
	return api.Em
}
