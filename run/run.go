// Package run runs scripts over an input that comes in pieces, and writes the journals of the runs.
package run

import (
	"retrace/api"
	"retrace/commands"
)

// For what a run asks for a line.
const (
	forNothing = 0
	forCycle   = 1 // to begin a cycle with it
	forNext    = 2 // `n`
	forMore    = 3 // `N`
)

// Run is a run that is under way.
type Run struct {
	script  commands.Script
	ranges  []bool // for each command, whether its range is open
	quiet   bool
	steps   int // how many commands may still be run
	room    int
	in      input
	out     []cell // all that was put out
	pattern []cell
	hold    []cell
	line    int
	queue   []string
	mark    bool
	next    int // the command that is reached next
	asks    int
	over    bool
	death   api.Errno
}

// Begin answers a run at its beginning.
func Begin(script commands.Script, quiet bool, steps int, room int) Run {
	r := Run{script: script, quiet: quiet, steps: steps, room: room, asks: forCycle}
	for range script.Commands {
		r.ranges = append(r.ranges, false)
	}
	return r
}

// Fed answers how many bytes the input has so far.
func (r *Run) Fed() int { return len(r.in.text) }

// Feed adds to the input and goes on. It answers what is put out by that, and the error by which the run dies.
func (r *Run) Feed(s string) (string, api.Errno) {
	r.in.text += s
	return r.goOn()
}

// Close ends the input and goes on to the end. It answers as Feed does.
func (r *Run) Close() (string, api.Errno) {
	r.in.closed = true
	return r.goOn()
}

// goOn comes to an end: each command that is reached costs a step, and without one a cycle takes a line.
func (r *Run) goOn() (string, api.Errno) {
	before := len(r.out)
	going := true
	for going && !r.over {
		going = r.move()
	}
	now := part(r.out, before, len(r.out))
	return textOf(now), r.death
}

// move does what comes next, and tells whether something could be done without more input.
func (r *Run) move() bool {
	if r.asks == forNothing {
		r.reach()
		return true
	}
	switch r.in.ask() {
	case notYet:
		return false
	case noLine:
		r.doWithout()
	case ready:
		r.take()
	}
	return true
}

// doWithout ends the run, since it asks for a line and there is none.
func (r *Run) doWithout() {
	if r.asks == forCycle {
		r.over = true
	} else {
		r.endEarly()
	}
}

// take takes the line for which the run asks.
func (r *Run) take() {
	asked := r.asks
	r.asks = forNothing
	if asked == forNext {
		r.putUnlessQuiet()
	}
	r.putQueue()
	// The newline of the line before is the one ahead of this one.
	between := newline(r.in.newline)
	line := r.in.take()
	r.line++
	r.mark = false
	if asked == forMore {
		line = joined(r.pattern, between, line)
	}
	if r.fits(len(line)) {
		r.pattern = line
	}
}

// reach runs the next command, or ends the cycle behind the last one.
func (r *Run) reach() {
	at := r.next
	if at < 0 || at >= len(r.script.Commands) {
		r.putUnlessQuiet()
		r.endCycle()
		return
	}
	if r.steps <= 0 {
		r.die(api.ErrSteps)
		return
	}
	r.steps--
	r.next = at + 1
	c := r.script.Commands[at]
	chosen := r.selects(at)
	if chosen {
		r.do(c)
	} else if c.Name == '{' {
		r.next = c.Next
	}
}

// endCycle does what comes behind the last command, but for putting the pattern space out.
func (r *Run) endCycle() {
	r.putQueue()
	r.next = 0
	r.asks = forCycle
}

func (r *Run) endEarly() {
	r.putUnlessQuiet()
	r.putQueue()
	r.over = true
}

// die ends the run by an error. What comes behind a death puts nothing out and changes no error.
func (r *Run) die(e api.Errno) {
	if r.death == api.OK {
		r.death = e
	}
	r.over = true
}

// fits tells whether a space may have so many bytes; the run dies, if not.
func (r *Run) fits(length int) bool {
	if length > r.room {
		r.die(api.ErrRoom)
		return false
	}
	return true
}
