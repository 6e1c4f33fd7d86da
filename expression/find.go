package expression

// nowhere: the place that no text has.
const nowhere = -1

// Find answers the least place from at on from which the expression matches, and the greatest one to which it does from there; -1 and -1, if there is none.
func (e Expression) Find(s string, at int) (int, int) {
	ends := e.ends(s)
	for i := at; i >= 0 && i < len(ends); i++ {
		if ends[i] != nowhere {
			return i, ends[i]
		}
	}
	return nowhere, nowhere
}

// Span: a match, from where to where.
type Span struct {
	From int
	To   int
}

// Matches answers all matches that do not overlap, from the first on; none that is empty begins where the one before ends.
func (e Expression) Matches(s string) []Span {
	var l []Span
	ends := e.ends(s)
	behind := nowhere
	for i := 0; i >= 0 && i < len(ends); {
		end := ends[i]
		if end > i || end == i && i != behind {
			l = append(l, Span{From: i, To: end})
			behind = end
			i = end
		} else {
			i++
		}
	}
	return l
}

// ends answers for each place of a text the greatest one to which the expression matches from there, or nowhere. The items are laid on from the last to the first: so each meets each place once, however many ways there are to match.
func (e Expression) ends(s string) []int {
	m := matches{text: s}
	for p := 0; p <= len(s); p++ {
		if e.atEnd && p < len(s) {
			m.ends = append(m.ends, nowhere)
		} else {
			m.ends = append(m.ends, p)
		}
	}
	for k := len(e.items) - 1; k >= 0; k-- {
		m.layAhead(e.items[k])
	}
	for p := 1; e.atStart && p <= len(s); p++ {
		m.ends[p] = nowhere
	}
	return m.ends
}

// matches: for each place of a text, its end among them, the greatest one to which the items that are laid already match from there, or nowhere.
type matches struct {
	text string
	ends []int
}

func (m *matches) layAhead(it item) {
	if it.many {
		m.layMany(it)
	} else {
		m.layOne(it)
	}
}

// layOne goes upwards: what a place asks the one behind it for is then still the answer without the item.
func (m *matches) layOne(it item) {
	for p := 0; p < len(m.text); p++ {
		if it.has[m.text[p]] {
			m.ends[p] = m.ends[p+1]
		} else {
			m.ends[p] = nowhere
		}
	}
	m.ends[len(m.text)] = nowhere
}

// layMany goes downwards: the answer of the place behind is then that of the item again.
func (m *matches) layMany(it item) {
	for p := len(m.text) - 1; p >= 0; p-- {
		if it.has[m.text[p]] && m.ends[p+1] > m.ends[p] {
			m.ends[p] = m.ends[p+1]
		}
	}
}
