package emph

// most is how many signs of a run Match reckons with.
const most = 100

// sorts is how many numbers sortOf gives.
const sorts = 256 * 6

// matching is what Match knows while it goes from run to run.
type matching struct {
	runs  []Run // with their first Counts
	left  []int // how many signs each of them has left
	open  []int // the places of those that open and have signs left, rising
	none  []int // by sort: ahead of this place nothing opens for what closes
	pairs []Pair
}

// Match gives the pairs that the runs l make.
func Match(l []Run) []Pair {
	m := matching{runs: held(l), left: make([]int, len(l)), none: make([]int, sorts)}
	for at, run := range m.runs {
		m.left[at] = run.Count
		if run.Closes {
			m.closeWith(at)
		}
		if run.Opens && m.left[at] > 0 {
			m.open = append(m.open, at)
		}
	}
	return m.pairs
}

// held gives l with Counts that are neither below 0 nor too great.
func held(l []Run) []Run {
	runs := make([]Run, len(l))
	for at, run := range l {
		run.Count = min(max(run.Count, 0), most)
		runs[at] = run
	}
	return runs
}

// closeWith pairs the run at at, as long as it has signs left, with those ahead of it.
func (m *matching) closeWith(at int) {
	for m.left[at] > 0 {
		i, ok := m.nearest(at)
		if !ok {
			return
		}
		m.pair(i, at)
	}
}

// nearest gives the place in m.open of the nearest run that the one at at may close.
func (m *matching) nearest(at int) (int, bool) {
	closing := m.runs[at]
	sort := sortOf(closing)
	for i := len(m.open) - 1; i >= 0 && m.open[i] >= m.none[sort]; i-- {
		if fit(m.runs[m.open[i]], closing) {
			return i, true
		}
	}
	// What didn't open for this one never will for one of its sort: to look again each time would cost the list's length.
	m.none[sort] = at
	return 0, false
}

// pair makes a pair of the run at place i of m.open and the one at at.
func (m *matching) pair(i, at int) {
	open := m.open[i]
	size := 1
	if m.left[open] >= 2 && m.left[at] >= 2 {
		size = 2
	}
	m.left[open] -= size
	m.left[at] -= size
	m.pairs = append(m.pairs, Pair{Open: open, Close: at, Size: size})
	// Those between are passed as closing ones: no longer open, they are out of all that follows.
	m.open = m.open[:i+1]
	if m.left[open] == 0 {
		m.open = m.open[:i]
	}
}

// fit tells whether open and closing, with their first Counts, may make a pair.
func fit(open, closing Run) bool {
	if open.Char != closing.Char {
		return false
	}
	if open.Count%3 == 0 && closing.Count%3 == 0 {
		return true
	}
	either := open.Closes || closing.Opens
	return !either || (open.Count+closing.Count)%3 != 0
}

// sortOf numbers what fit asks of a closing run: of two that have the same number, what fits one fits the other.
func sortOf(closing Run) int {
	sort := int(closing.Char)*6 + closing.Count%3
	if closing.Opens {
		sort += 3
	}
	return sort
}
