package run

import (
	"retrace/commands"
	"retrace/expression"
)

// substitute does `s`.
func (r *Run) substitute(s commands.Substitution) {
	text := textOf(r.pattern)
	matches := s.Expression.Matches(text)
	if len(matches) < s.Count {
		return
	}
	result := replaced(r.pattern, s, matches)
	if !r.fits(len(result)) {
		return
	}
	r.pattern = result
	r.mark = true
	if s.Print {
		r.putPattern()
	}
}

// replaced answers a space with those of its matches replaced of which the substitution is.
func replaced(l []cell, s commands.Substitution, matches []expression.Span) []cell {
	var result []cell
	behind := 0
	for i, m := range matches {
		number := i + 1
		if number == s.Count || number > s.Count && s.All {
			ahead := part(l, behind, m.From)
			matched := part(l, m.From, m.To)
			filled := filledIn(s.Replacement, matched)
			result = append(result, ahead...)
			result = append(result, filled...)
			behind = m.To
		}
	}
	rest := part(l, behind, len(l))
	result = append(result, rest...)
	return result
}

// filledIn answers a replacement with what was matched in its place.
func filledIn(pieces []commands.Piece, matched []cell) []cell {
	var l []cell
	for _, p := range pieces {
		if p.Matched {
			l = append(l, matched...)
		} else {
			l = append(l, cell{value: p.Byte, origin: nowhere})
		}
	}
	return l
}

// exchanged answers a space as `y` leaves it. A byte that becomes itself is a new one too.
func exchanged(l []cell, x commands.Exchange) []cell {
	var result []cell
	for _, c := range l {
		k := placeOf(x.From, c.value)
		if k >= 0 && k < len(x.To) {
			c = cell{value: x.To[k], origin: nowhere}
		}
		result = append(result, c)
	}
	return result
}

// placeOf answers the place of a byte in a text; -1, if it is not there.
func placeOf(s string, c byte) int {
	for i := 0; i < len(s); i++ {
		if s[i] == c {
			return i
		}
	}
	return -1
}
