package run

import (
	"strconv"

	"retrace/commands"
)

// do does what a command says that is selected.
func (r *Run) do(c commands.Command) {
	switch c.Name {
	case 'p', 'P', '=', 'i', 'a':
		r.show(c)
	case 'h', 'H', 'g', 'G', 'x', 's', 'y':
		r.change(c)
	case 'd', 'D', 'c', 'n', 'N', 'q', 'b', 't':
		r.lead(c)
	}
}

// show does the commands that put something out, now or later.
func (r *Run) show(c commands.Command) {
	switch c.Name {
	case 'p':
		r.putPattern()
	case 'P':
		r.putFirstLine()
	case '=':
		digits := strconv.Itoa(r.line)
		r.putText(digits)
	case 'i':
		r.putText(c.Text)
	case 'a':
		r.queue = append(r.queue, c.Text)
	}
}

// change does the commands that change the spaces.
func (r *Run) change(c commands.Command) {
	pattern := r.pattern
	hold := r.hold
	between := newline(nowhere)
	switch c.Name {
	case 'h':
		r.hold = pattern
	case 'g':
		r.pattern = hold
	case 'x':
		r.pattern = hold
		r.hold = pattern
	case 'H':
		grown := joined(hold, between, pattern)
		if r.fits(len(grown)) {
			r.hold = grown
		}
	case 'G':
		grown := joined(pattern, between, hold)
		if r.fits(len(grown)) {
			r.pattern = grown
		}
	case 's':
		r.substitute(c.Substitution)
	case 'y':
		r.pattern = exchanged(pattern, c.Exchange)
	}
}

// lead does the commands that say with what it is gone on.
func (r *Run) lead(c commands.Command) {
	switch c.Name {
	case 'd':
		r.endCycle()
	case 'D':
		r.dropFirstLine()
	case 'c':
		r.putText(c.Text)
		r.endCycle()
	case 'n':
		r.asks = forNext
	case 'N':
		r.asks = forMore
	case 'q':
		r.endEarly()
	case 'b':
		r.next = c.Next
	case 't':
		if r.mark {
			r.mark = false
			r.next = c.Next
		}
	}
}

// dropFirstLine goes on with what stands behind the pattern space's first newline, if it has one.
func (r *Run) dropFirstLine() {
	behind := behindNewline(r.pattern)
	if behind == 0 {
		r.endCycle()
		return
	}
	r.pattern = part(r.pattern, behind, len(r.pattern))
	r.putQueue()
	r.next = 0
}
