package run

import "retrace/commands"

// selects tells whether a command that is reached is selected.
func (r *Run) selects(at int) bool {
	if at < 0 || at >= len(r.script.Commands) {
		return false
	}
	a := r.script.Commands[at].Addresses
	switch a.Count {
	case 0:
		return true
	case 1:
		chosen := r.holds(a.First)
		return chosen != a.Not
	}
	chosen := r.inRange(at, a)
	return chosen != a.Not
}

// holds tells whether an address holds.
func (r *Run) holds(a commands.Address) bool {
	switch a.Kind {
	case commands.Line:
		return a.Line == r.line
	case commands.Last:
		return r.in.atLast()
	case commands.Match:
		text := textOf(r.pattern)
		i, _ := a.Expression.Find(text, 0)
		return i >= 0
	}
	return false
}

// inRange tells whether a command is selected by its two addresses, and opens or closes its range.
func (r *Run) inRange(at int, a commands.Addresses) bool {
	if at < 0 || at >= len(r.ranges) {
		return false
	}
	numbered := a.Second.Kind == commands.Line
	if r.ranges[at] {
		ends := r.holds(a.Second)
		r.ranges[at] = !ends && !(numbered && a.Second.Line < r.line)
		return true
	}
	begins := r.holds(a.First)
	r.ranges[at] = begins && !(numbered && a.Second.Line <= r.line)
	return begins
}
